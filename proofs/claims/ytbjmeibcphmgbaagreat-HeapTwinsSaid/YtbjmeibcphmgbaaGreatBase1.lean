/- Put together: Memory, plainly: which blocks a step may turn ('Chg'), a block that is known whole, a row of words, lists that are laid over. No condition. Contracts of package arena: what each call tells, and what words there are behind it. Condition: the arena is one (ArenaAt), the numbers are int's. Package arena: a new one, under names. No condition. Plain facts on words of 64 bits as natural numbers: parts are got, set, packed and unpacked as bits are. No condition. Contracts of package word's Right, most, Mask, Get, Set at right parts. Condition: the parts are right. Package header: part, lay, read, flag, isCount, Right, Size, Head, Shape, Gone, Where, Free, Held, Owner are as the document says. Conditions: parts lie in a word, numbers fit. Package header: Free is as the document says. Condition: the number is a version. Contracts of package word's Zig and Zag. No condition. Package object: the closures that pick a word and those that make it another one; Shape, find, load and change at a place where there is an object. Condition: there is one (ObjIs). Package object: Serial, Second, Ptr, Num, SetPtr, SetNum, SetFreed, SetSecond at a place where there is an object, and Make, are as the document says. Condition: there is an object (ObjIs); of Make: its shape is right. Package header: Gone, Where, Free, Held, Owner are as the document says. Condition: numbers are not below 0; Owner is asked of a word that Held or Free made. The contract of package arena's Move: the words lie there as they lay ahead. Condition: the arena is one (ArenaAt), the numbers are int's. An iterator without an end of its own, and a loop over it that leaves off: the k-th round is told the k-th answer; that the loop leaves off is the caller's word (its rule holds for fewer than M rounds alone). Under wpIn_rangeFunc. The sizes of chapter class: 4 and 6 times the powers of two. Plain; no condition. A region within a round of a range over a function, at the wide fence: what is shown of it as of a region elsewhere ('wpAnyH': one condition S kept) holds there too, if none of its operations defers and the post lets nothing out. Package class: the endless iterator hands out the sizes one behind the other; least, Class and Round are the place and the size of the document. No condition. The laws' pick: which of n things a raw number speaks of. Condition: n is above 0. Package space at right spaces: Right, Make, Take, Used, Left, Has, Empty are as the document says. Condition: the space handed in is right. Package mover: At, sizeAt, Copy and taken at a place where there is an object, or where one is gone from, are as the document says. Condition: there is one (ObjIs; of At and taken also: one that is gone). Objects that stand one behind the other: where the k-th begins, behind the words that those ahead of it took. Plain; no condition. What the rounds of a range over a function may not touch: what lay below n₁, but for S. Plain; no condition. A row of numbers that the call itself appends to. Plain; no condition. Package mover: the iterator 'objects' tells the places of objects that stand one behind the other, and Walk hands them back in new memory. Condition: the space is right, its words are those of these objects, and none of them is gone. The laws of layer 6: their pick, and the right shape that raw numbers speak of. No condition. The pick of layer 8's laws: which of n things a raw number speaks of. Condition: n is above 0. What a law's arguments are, opened: arrays of ints by value, slices of ints. Plain; no condition. What the laws of layer 8 have in common: two lists compared, an object's words, their look at the chapter's example. No condition but that lists are there to be read. What a block that is known whole gives a walk. Plain; no condition. Package mover: Strong; rows and lists that are read. Conditions: there is an object; its pointers are ints. What a heap holds, plainly: its words, the places of the objects of both spaces, what it owes, its lists; what is done to it, as functions. No condition. A row of the call's own is appended to, from a list that is read, nil or not. Plain; no condition. What one comes to from roots, plainly: lists of places, one behind the other, each once. No condition. slices.BinarySearch over ints that rise: whether a number is one of them. Condition: they rise, and are read. Package mover: At of nothing, Copy of what is gone already. Conditions as said there. A heap in memory: its struct's sixteen cells, its arena, its four rows; which blocks are its own. Plain; no condition. Package heap: what only reads: old, has, Here, may, scanned, Room, Moving, taken. Condition: the heap is one, and right where said. When a heap is right, and that it stays so when an object goes. Plain; no condition. A heap stays right when an object goes. Plain; no condition. A heap stays right when an object goes: the whole. Plain; no condition. -/
import Derived.WalkKit
import Derived.ProofKit
import Derived.Below
import Derived.OneCell
import Derived.Laws.CopyRow
import Derived.Laws.CopyOwn
import Derived.Laws.AppendOwn
import Derived.Laws.MakeOwn
import Derived.Lib.Hide
import Derived.Deep.Draws
import Derived.OrdersHeld
import Derived.Test.YtbjmeibcphmgbaaGreatRows
import Derived.Outline
import Derived.LoopTactic
import Derived.Deep.RegionHeld3
import Derived.Deep.RegionLaw
import Derived.Laws.BitsAllLaws
import Derived.IntWalk
import Derived.OpenShut
import Derived.Deep.QuietTactic
import Derived.BigQuiet
import Derived.WalkSmall
import Derived.RangeFuncNested
import Derived.RangeFuncBound
import Derived.RangeFuncCalls
import Derived.RangeFuncLeaves
import Derived.Deep.RegionHeld
import Derived.TacticsIn
import Derived.OrdersIn
import Derived.Shelf.Abstract
import Derived.Shelf.RegionOpen
import Derived.OwnWalkIn
import Derived.TacticsInMore
import Derived.LoopNIn
import Derived.LoopIn
import Derived.Maps.AppendAt
import Derived.OwnWalk
import Derived.Deep.DeepAppendWide
import Derived.ShutString
import Derived.ChangeOld
import Derived.Deep.CutRange
import Derived.Deep.AppendSrc
import Derived.BigRegion
namespace Go.Proofs.YtbjmeibcphmgbaaGreat
open Go.RowKit

/-- A number that stands in a proof as a literal, and the next one: which operation of a region is taken. -/
def Cnt (_ : Nat) : Prop := True
theorem Cnt.next {n : Nat} (_ : Cnt n) : Cnt (n + 1) := trivial
theorem takeC {P : Program} {md : Region.Mode} {ops : Array Oper} {Q : Exit → Act → World → Prop} {S : World → Prop} {i : Nat} (_ : Cnt i) {oi : Oper} {v : Value} {fuel : Nat} {listed : Array Bool} {a : Act} {w : World} (hi : ops[i]? = some oi)
    (hs : Region.noSelect ops = true) (hf : Region.free md ops listed i = true) (hr : (Region.ready md ops listed).contains i = true)
    (hQ : ∀ c a w, Q (.panic c) (a.put oi.dst v) w → Q (.panic c) a w) (hy : YieldsIf P ops S oi v a) (hS : S w)
    (h : wpAnyH P md ops Q S fuel (listed.setIfInBounds i true) (a.put oi.dst v) w) : wpAnyH P md ops Q S (fuel + 1) listed a w := wpAnyH_take hi hs hf hr hQ hy hS h

/-- From a to b only the blocks of S, and new ones, have turned. -/
structure Chg (S : Nat → Prop) (a b : World) : Prop where
  os : b.os = a.os
  tape : b.tape = a.tape
  output : b.output = a.output
  size : a.heap.size ≤ b.heap.size
  block : ∀ k, k < a.heap.size → ¬ S k → b.heap[k]? = a.heap[k]?

/-- Block b of w is just these cells, none of them frozen. -/
def BlkIs (w : World) (b : Nat) (cs : Array Value) (t : TypeId) : Prop := w.heap[b]? = some (.cells cs t (0, 0))

section
variable {S T : Nat → Prop} {a b c w : World} {k n : Nat} {cs : Array Value} {t : TypeId}

theorem Chg.refl (S : Nat → Prop) (w : World) : Chg S w w := ⟨rfl, rfl, rfl, Nat.le_refl _, fun _ _ _ => rfl⟩
theorem Chg.trans (h : Chg S a b) (g : Chg S b c) : Chg S a c :=
  ⟨g.os.trans h.os, g.tape.trans h.tape, g.output.trans h.output, Nat.le_trans h.size g.size, fun k hk hs => (g.block k (Nat.lt_of_lt_of_le hk h.size) hs).trans (h.block k hk hs)⟩
theorem Chg.mono (h : Chg S a b) (hs : ∀ k, S k → T k) : Chg T a b := ⟨h.os, h.tape, h.output, h.size, fun k hk ht => h.block k hk fun e => ht (hs k e)⟩
/-- One step that may turn a block that is new since w. -/
theorem Chg.step (h : Chg S w a) (g : Chg T a b) (hs : ∀ k, T k → S k ∨ w.heap.size ≤ k) : Chg S w b :=
  ⟨g.os.trans h.os, g.tape.trans h.tape, g.output.trans h.output, Nat.le_trans h.size g.size, fun k hk ht =>
    (g.block k (Nat.lt_of_lt_of_le hk h.size) fun e => (hs k e).elim ht fun e' => absurd e' (by omega)).trans (h.block k hk ht)⟩
theorem Chg.alloc (h : Chg S w a) (o : Obj) : Chg S w (a.alloc o) :=
  h.trans ⟨rfl, rfl, rfl, by simp, fun k hk _ => Below.heap_alloc _ _ _ hk⟩
theorem Chg.drew (h : Chg S w a) : Chg S w a.drew := ⟨h.os, h.tape, h.output, h.size, h.block⟩
theorem Chg.drewN (h : Chg S w a) (n : Nat) : Chg S w (a.drewN n) := ⟨h.os, h.tape, h.output, h.size, h.block⟩
theorem Chg.setCell (h : Chg S w a) {p : Addr} (hp : S p.block ∨ w.heap.size ≤ p.block) (u : Value) : Chg S w (a.setCell p u) :=
  h.step (T := fun k => k = p.block) ⟨rfl, rfl, rfl, by simp [World.setCell], fun k _ hk => Below.heap_setCell _ _ _ _ hk⟩ fun k e => by subst e; exact hp
theorem Chg.setRow (h : Chg S w a) {g : Nat} (hp : S g ∨ w.heap.size ≤ g) (cs : Array Value) : Chg S w (a.setRow g cs) :=
  h.step (T := fun k => k = g) ⟨rfl, rfl, rfl, by simp, fun k _ hk => setRow_other _ _ _ _ hk⟩ fun k e => by subst e; exact hp
theorem Chg.of_below (h : Below n a b) (hn : a.heap.size ≤ n) : Chg S a b := ⟨h.os, h.tape, h.output, h.size, fun k hk _ => h.block k (by omega)⟩
theorem Chg.of_grown {row : Option Nat} (h : a.grownBy b row) (hs : ∀ k, some k = row → S k) : Chg S a b := ⟨h.os, h.tape, h.output, h.size, fun k hk ht => h.block k hk fun e => ht (hs k e)⟩
theorem Chg.below (h : Chg S a b) (hs : ∀ k, S k → n ≤ k) (hn : n ≤ a.heap.size) : Below n a b :=
  ⟨h.os, h.tape, h.output, h.size, fun k hk => h.block k (by omega) fun e => by have := hs k e; omega⟩
theorem Chg.cell (h : Chg S a b) {p : Addr} (hp : p.block < a.heap.size) (hs : ¬ S p.block) : b.cell? p = a.cell? p := World.cell?_of_block (h.block p.block hp hs)

theorem BlkIs.lt (h : BlkIs w k cs t) : k < w.heap.size := lt_of_block h
theorem BlkIs.cell (h : BlkIs w k cs t) (i : Nat) : w.cell? ⟨k, i, none⟩ = cs[i]? := by unfold BlkIs at h; simp [World.cell?, h]
theorem BlkIs.free (h : BlkIs w k cs t) (i : Nat) : w.frozen? ⟨k, i, none⟩ = false := by unfold BlkIs at h; simp [World.frozen?, h]
theorem BlkIs.new (w : World) (cs : Array Value) (t : TypeId) : BlkIs (w.alloc (.cells cs t)) w.heap.size cs t := by
  show (w.heap.push _)[w.heap.size]? = _
  simp
theorem BlkIs.chg (h : BlkIs a k cs t) (g : Chg S a b) (hs : ¬ S k) : BlkIs b k cs t := (g.block k h.lt hs).trans h
theorem BlkIs.below (h : BlkIs a k cs t) (g : Below n a b) (hs : k < n) : BlkIs b k cs t := (g.block k hs).trans h
theorem BlkIs.alloc (h : BlkIs a k cs t) (o : Obj) : BlkIs (a.alloc o) k cs t := (Below.heap_alloc a o k h.lt).trans h
theorem BlkIs.set (h : BlkIs w k cs t) (i : Nat) (u : Value) : BlkIs (w.setCell ⟨k, i, none⟩ u) k (cs.setIfInBounds i u) t := by
  unfold BlkIs at *
  rw [setCell_eq_setRow w k i cs t (0, 0) u h]
  exact setRow_heap w k _ _ t _ h
theorem BlkIs.far (h : BlkIs w k cs t) {p : Addr} (hp : k ≠ p.block) (u : Value) : BlkIs (w.setCell p u) k cs t := (Below.heap_setCell w p u k hp).trans h
theorem BlkIs.row (h : BlkIs w k cs t) (ds : Array Value) : BlkIs (w.setRow k ds) k ds t := setRow_heap w k _ _ t _ h
theorem BlkIs.rowFar (h : BlkIs w k cs t) {g : Nat} (hp : k ≠ g) (ds : Array Value) : BlkIs (w.setRow g ds) k cs t := (setRow_other w g k ds hp).trans h
end

/-- k numbers are laid over l, from place a on. -/
def layL (l : List Int) (a : Nat) (f : Nat → Int) : Nat → List Int
  | 0 => l
  | k + 1 => (layL l a f k).set (a + k) (f k)
@[simp] theorem layL_length (l : List Int) (a : Nat) (f : Nat → Int) (k : Nat) : (layL l a f k).length = l.length := by
  induction k with
  | zero => rfl
  | succ k ih => simp [layL, ih]
theorem layL_at (l : List Int) (a : Nat) (f : Nat → Int) (k j : Nat) (h : j < l.length) : (layL l a f k).getD j 0 = if a ≤ j ∧ j < a + k then f (j - a) else l.getD j 0 := by
  induction k with
  | zero => rw [if_neg (by omega)]; rfl
  | succ k ih =>
    unfold layL
    rw [List.getD_eq_getElem?_getD, List.getElem?_set]
    by_cases e : a + k = j
    · subst e
      rw [if_pos rfl, if_pos (by rw [layL_length]; exact h), if_pos (by omega), show a + k - a = k from by omega]
      rfl
    · rw [if_neg e, ← List.getD_eq_getElem?_getD, ih]
      by_cases e2 : a ≤ j ∧ j < a + k
      · rw [if_pos e2, if_pos (by omega)]
      · rw [if_neg e2, if_neg (by omega)]
theorem layL_mem {l : List Int} {a : Nat} {f : Nat → Int} {P : Int → Prop} (hl : ∀ z ∈ l, P z) (k : Nat) (hf : ∀ j, j < k → P (f j)) : ∀ z ∈ layL l a f k, P z := by
  induction k with
  | zero => exact hl
  | succ k ih =>
    intro z hz
    rcases List.mem_or_eq_of_mem_set hz with h | rfl
    · exact ih (fun j hj => hf j (by omega)) z h
    · exact hf k (by omega)
theorem ext_getD {l m : List Int} (hl : l.length = m.length) (h : ∀ j, j < l.length → l.getD j 0 = m.getD j 0) : l = m := by
  refine List.ext_getElem hl fun i h1 h2 => ?_
  have := h i h1
  simpa [List.getD, h1, h2] using this
theorem layL_splice (l : List Int) (a : Nat) (f : Nat → Int) (k : Nat) (h : a + k ≤ l.length) : layL l a f k = splice l a ((List.range k).map f) := by
  have hs := length_splice l a ((List.range k).map f) (by simpa using h)
  refine ext_getD (by rw [layL_length, hs]) fun j hj => ?_
  rw [layL_length] at hj
  rw [layL_at _ _ _ _ _ hj]
  unfold splice
  by_cases h1 : j < a
  · rw [if_neg (by omega), List.getD_eq_getElem?_getD, List.getD_eq_getElem?_getD, List.getElem?_append_left (by simp; omega), List.getElem?_take_of_lt h1]
  · by_cases h2 : j < a + k
    · rw [if_pos (by omega), List.getD_eq_getElem?_getD, List.getElem?_append_right (by simp; omega), List.length_take, Nat.min_eq_left (by omega), List.getElem?_append_left (by simp; omega), List.getElem?_map, List.getElem?_range (by omega)]
      rfl
    · rw [if_neg (by omega), List.getD_eq_getElem?_getD, List.getD_eq_getElem?_getD, List.getElem?_append_right (by simp; omega), List.length_take, Nat.min_eq_left (by omega), List.getElem?_append_right (by simp; omega), List.getElem?_drop, List.length_map, List.length_range]
      congr 2
      omega

/-- A place of a list of numbers, as a value. -/
theorem map_set {α β : Type} (f : α → β) (l : List α) (i : Nat) (x : α) : (l.map f).set i (f x) = (l.set i x).map f := by
  rw [List.map_set]
theorem splice_map {α β : Type} (f : α → β) (l : List α) (a : Nat) (cs : List α) : splice (l.map f) a (cs.map f) = (splice l a cs).map f := by
  unfold splice; simp

/-- 'copy' at a step of a region that draws its order: the world behind it written out. -/
theorem step_copy_at {P : Program} {ops : Array Oper} {o : Oper} {a : Act} {w : World} {K : Act → World → Prop} {Q : Exit → Act → World → Prop} {E : Prop} (hgd : o.guard = none) (d s : Operand) (dT sT : TypeId)
    (ho : o.op = .call { callee := .builtin .copy, args := #[d, s], argTypes := #[dT, sT] }) (elem : TypeId) (hu : P.underlying dT = some (.slice elem)) (hsz : (P.info? elem).map (·.size) = some 1)
    (dp sp : Option Addr) (dLen dCap sLen sCap : Nat) (hd : a.eval d = .slice dp dLen dCap) (hs : a.eval s = .slice sp sLen sCap)
    (g off : Nat) (cur : List Value) (t : TypeId) (hg : w.heap[g]? = some (.cells cur.toArray t (0, 0))) (cs : List Value) (hn : cs.length = Nat.min sLen dLen)
    (hpos : 0 < cs.length → dp = some ⟨g, off, none⟩ ∧ ∃ ad, sp = some ad ∧ ∀ j v, cs[j]? = some v → w.cell? (ad.add j) = some v)
    (hfit : off + cs.length ≤ cur.length) (h1 : ∀ v ∈ cs, v.oneCell' = true)
    (h : K (a.put o.dst (goInt cs.length)) (w.setRow g (splice cur off cs).toArray)) :
    if Region.wanted o (yielded ops a.tmps) = true then Oper.wp P o a w K Q else E := by
  rw [if_pos (by simp [Region.wanted, hgd])]
  by_cases h0 : cs.length = 0
  · obtain rfl : cs = [] := List.eq_nil_of_length_eq_zero h0
    have hrun := run_copy_none (P := P) w dT sT o.type elem dp sp dLen dCap sLen sCap hu hsz (by simpa using hn.symm)
    have he : splice cur off ([] : List Value) = cur := by simp [splice]
    rw [he, setRow_self w g _ t (0, 0) hg] at h
    unfold Oper.wp
    simp [execOp, ho, resolve, invoke, builtin, hd, hs, hrun, Result.andThen]
    exact h
  · obtain ⟨rfl, ad, rfl, hsrc⟩ := hpos (by omega)
    have hrun := run_copy_row (P := P) w dT sT o.type elem g off dLen dCap ad sLen sCap cur.toArray t cs hu hsz hg hn hsrc (by simpa using hfit) h1
    unfold Oper.wp
    simp [execOp, ho, resolve, invoke, builtin, hd, hs, hrun, Result.andThen]
    exact h

/-- 'make' of a row of one-cell elements. -/
theorem make_row {P : Program} (t e : TypeId) (i : TypeInfo) (z : Value) (ht : P.underlying t = some (.slice e)) (hi : P.info? e = some i) (hz : i.zero = some z)
    (kl kc : IntKind) (n c : Nat) (hnc : n ≤ c) (hbytes : i.bytes * c ≤ 281474976710656) (h63 : c ≤ 9223372036854775807) (w : World) :
    (Instr.makeSlice t (.int kl (n : Int)) (.int kc (c : Int))).run P w = .ok (.slice (some ⟨w.heap.size, 0, none⟩) n c) (w.alloc (.cells (madeCells z.cells (c * i.size)) e)) := by
  have hb : (i.bytes : Int) * (c : Int) ≤ 281474976710656 := by
    have h : ((i.bytes * c : Nat) : Int) ≤ 281474976710656 := by omega
    rwa [Int.natCast_mul] at h
  have hr := run_make (P := P) w t e i z ht hi hz kl kc n c (by omega) (by omega) hb (by omega)
  simp only [Int.toNat_natCast] at hr
  exact hr
theorem made_ints (k : IntKind) (n : Nat) : madeCells #[Value.int k 0] n = ((List.replicate n (0 : Int)).map (Value.int k)).toArray := by
  refine Array.ext_getElem? fun i => ?_
  simp only [madeCells, List.size_toArray, List.length_cons, List.length_nil, Nat.zero_add, Nat.mod_one, Array.getElem?_map, List.getElem?_toArray, List.getElem?_map]
  by_cases h : i < n
  · simp [h]
  · simp [h]

end Go.Proofs.YtbjmeibcphmgbaaGreat

namespace Go.Proofs.YtbjmeibcphmgbaaGreat
open Go.ChangeShapes Go.WideShapes Go.ChangeAt Go.RowKit

set_option linter.unusedSimpArgs false
set_option linter.unusedVariables false

/-- Words l lie in block b; block p is the arena (its struct's type is t) that has them. -/
structure ArenaAt (t : TypeId) (w : World) (p b : Nat) (l : List Int) : Prop where
  head : BlkIs w p #[.slice (some ⟨b, 0, none⟩) l.length l.length] t
  row : BlkIs w b (l.map (Value.int .u64)).toArray 65
  len : l.length ≤ 65536
  fits : ∀ z ∈ l, 0 ≤ z ∧ z ≤ 18446744073709551615

section
variable {t : TypeId} {w w' : World} {p b : Nat} {l : List Int} {S : Nat → Prop}
theorem ArenaAt.chg (h : ArenaAt t w p b l) (g : Chg S w w') (hp : ¬ S p) (hb : ¬ S b) : ArenaAt t w' p b l := ⟨h.head.chg g hp, h.row.chg g hb, h.len, h.fits⟩
theorem ArenaAt.below {n : Nat} (h : ArenaAt t w p b l) (g : Below n w w') (hp : p < n) (hb : b < n) : ArenaAt t w' p b l := ⟨h.head.below g hp, h.row.below g hb, h.len, h.fits⟩
theorem ArenaAt.cell {i : Nat} (h : ArenaAt t w p b l) (hi : i < l.length) : w.cell? ⟨b, i, none⟩ = some (.int .u64 (l.getD i 0)) := by
  rw [h.row.cell]
  simp [List.getD, hi]
theorem ArenaAt.slot (h : ArenaAt t w p b l) : w.cell? ⟨p, 0, none⟩ = some (.slice (some ⟨b, 0, none⟩) l.length l.length) := by
  rw [h.head.cell]; rfl
theorem ArenaAt.ne (h : ArenaAt t w p b l) (ht : t ≠ 65) : p ≠ b := by
  rintro rfl
  have h1 := h.head
  have h2 := h.row
  unfold BlkIs at h1 h2
  rw [h1] at h2
  injection h2 with h2
  injection h2 with _ h2
  exact ht h2
theorem ArenaAt.set (h : ArenaAt t w p b l) (ht : t ≠ 65) {i : Nat} {x : Int} (hx : 0 ≤ x ∧ x ≤ 18446744073709551615) : ArenaAt t (w.setCell ⟨b, i, none⟩ (.int .u64 x)) p b (l.set i x) := by
  refine ⟨?_, ?_, by rw [List.length_set]; exact h.len, fun z hz => ?_⟩
  · rw [List.length_set]; exact h.head.far (h.ne ht) _
  · have := h.row.set i (.int .u64 x)
    simpa [List.map_set] using this
  · rcases List.mem_or_eq_of_mem_set hz with h1 | rfl
    · exact h.fits z h1
    · exact hx
theorem ArenaAt.put (h : ArenaAt t w p b l) (ht : t ≠ 65) {a k : Nat} {f : Nat → Int} (ha : a + k ≤ l.length) (hf : ∀ j, j < k → 0 ≤ f j ∧ f j ≤ 18446744073709551615) :
    ArenaAt t (w.setRow b (splice (l.map (Value.int .u64)) a ((List.range k).map fun j => Value.int .u64 (f j))).toArray) p b (layL l a f k) := by
  refine ⟨?_, ?_, by rw [layL_length]; exact h.len, layL_mem h.fits k hf⟩
  · rw [layL_length]; exact h.head.rowFar (h.ne ht) _
  · rw [layL_splice l a f k ha, ← splice_map, List.map_map]; exact h.row.row _
end

/-- Whether n places from at on are there. -/
def fitsB (len : Nat) (at' n : Int) : Bool := decide (0 ≤ at') && decide (0 ≤ n) && decide (at' + n ≤ (len : Int))
theorem fitsB_yes {len : Nat} {a n : Int} (h : fitsB len a n = true) : 0 ≤ a ∧ 0 ≤ n ∧ a + n ≤ (len : Int) := by
  unfold fitsB at h; simpa [and_assoc] using h
theorem fitsB_of {len : Nat} {a n : Int} (h1 : 0 ≤ a) (h2 : 0 ≤ n) (h3 : a + n ≤ (len : Int)) : fitsB len a n = true := by
  unfold fitsB; simp [h1, h2, h3]
theorem fitsB_not {len : Nat} {a n : Int} (h : ¬ (0 ≤ a ∧ 0 ≤ n ∧ a + n ≤ (len : Int))) : fitsB len a n = false := by
  cases e : fitsB len a n
  · rfl
  · exact absurd (fitsB_yes e) h

def loadV (l : List Int) (a : Int) : Int := if fitsB l.length a 1 then l.getD a.toNat 0 else 0
def errV (len : Nat) (a n : Int) : Int := if fitsB len a n then 0 else 20
def fillV (l : List Int) (a n x : Int) : List Int := if fitsB l.length a n then layL l a.toNat (fun _ => x) n.toNat else l
def moveV (l : List Int) (a c n : Int) : List Int := if fitsB l.length a n && fitsB l.length c n then layL l c.toNat (fun j => l.getD (a.toNat + j) 0) n.toNat else l
def err2V (len : Nat) (a c n : Int) : Int := if fitsB len a n && fitsB len c n then 0 else 20

theorem getD_fits {l : List Int} (h : ∀ z ∈ l, 0 ≤ z ∧ z ≤ 18446744073709551615) (i : Nat) : 0 ≤ l.getD i 0 ∧ l.getD i 0 ≤ 18446744073709551615 := by
  by_cases hi : i < l.length
  · have := h (l.getD i 0) (by simp [List.getD, hi])
    exact this
  · simp [List.getD, hi]

/-! New -/
theorem infoW : (Tryz.prog.info? 65).map (fun i => (i.zero, i.size, i.bytes)) = some (some (.int .u64 0), 1, 8) := by kernel_rfl

set_option maxRecDepth 100000 in
theorem new_yes (n : Int) (w : World) (h0 : 1 ≤ n) (h1 : n ≤ 65536) :
    Calls Tryz.prog 79 #[.int .i64 n] w fun e w' => e = .returned (.tuple #[.pointer (some ⟨w.heap.size + 1, 0, none⟩), .int .i64 0]) ∧ ArenaAt 146 w' (w.heap.size + 1) w.heap.size (List.replicate n.toNat 0) ∧ w'.heap.size = w.heap.size + 2 ∧ Below w.heap.size w w' := by
  obtain ⟨i0, hi, hz0, hz1, hz2⟩ := info_parts infoW
  obtain ⟨n, rfl⟩ : ∃ k : Nat, n = k := ⟨n.toNat, by omega⟩
  have hmk := fun W => make_row (P := Tryz.prog) 144 65 i0 (.int .u64 0) Tryz.underlying144 hi hz0 .i64 .i64 n n (Nat.le_refl _) (by rw [hz2]; omega) (by omega) W
  simp only [hz1, Nat.mul_one] at hmk
  go_enter Tryz.func79, Tryz.ntmps79
  go_wp2
  go_ret2
  refine ⟨rfl, ⟨?_, ?_, by simp; omega, fun z hz => ?_⟩, by simp, ((Below.refl _ _).alloc (Nat.le_refl _) _).alloc (by simp) _⟩
  · have := BlkIs.new (w.alloc (.cells (madeCells #[Value.int .u64 0] n) 65)) #[.slice (some ⟨w.heap.size, 0, none⟩) n n] 146
    simpa using this
  · have h := BlkIs.new w (madeCells #[Value.int .u64 0] n) 65
    rw [Int.toNat_natCast, ← made_ints]
    exact h.alloc _
  · have := List.eq_of_mem_replicate hz
    omega


/-! Len, has, Load -/
theorem len_any {p b : Nat} {l : List Int} (w : World) (h : ArenaAt 146 w p b l) :
    Calls Tryz.prog 93 #[.pointer (some ⟨p, 0, none⟩)] w fun e w' => e = .returned (.int .i64 (l.length : Nat)) ∧ w = w' := by
  have hc := h.slot
  have hl := h.len
  clear h
  go_enter Tryz.func93, Tryz.ntmps93
  go_wp2
  go_ret
  exact ⟨rfl, rfl⟩

theorem has_any {p b : Nat} {l : List Int} (a n : Int) (w : World) (h : ArenaAt 146 w p b l) (a0 : -9223372036854775808 ≤ a) (a1 : a ≤ 9223372036854775807) (n0 : -9223372036854775808 ≤ n) (n1 : n ≤ 9223372036854775807) :
    Calls Tryz.prog 118 #[.pointer (some ⟨p, 0, none⟩), .int .i64 a, .int .i64 n] w fun e w' => e = .returned (.bool (fitsB l.length a n)) ∧ w = w' := by
  have hl := h.len
  by_cases h1 : 0 ≤ a
  · by_cases h2 : 0 ≤ n
    · by_cases h3 : a + n ≤ (l.length : Int)
      · have hd : decide (a ≤ (l.length : Int) - n) = true := by simp; omega
        rw [fitsB_of h1 h2 h3]
        go_enter Tryz.func118, Tryz.ntmps118
        go_wp2_with ((with_reducible refine (len_any _ h).mono ?_); rintro e w' ⟨rfl, rfl⟩)
        go_ret
        exact ⟨rfl, rfl⟩
      · have hd : decide (a ≤ (l.length : Int) - n) = false := by simp; omega
        rw [fitsB_not (by omega)]
        go_enter Tryz.func118, Tryz.ntmps118
        go_wp2_with ((with_reducible refine (len_any _ h).mono ?_); rintro e w' ⟨rfl, rfl⟩)
        go_ret
        exact ⟨rfl, rfl⟩
    · have hd : decide (0 ≤ n) = false := by simp; omega
      rw [fitsB_not (by omega)]
      go_enter Tryz.func118, Tryz.ntmps118
      go_wp2
      go_ret
      exact ⟨rfl, rfl⟩
  · have hd : decide (0 ≤ a) = false := by simp; omega
    rw [fitsB_not (by omega)]
    go_enter Tryz.func118, Tryz.ntmps118
    go_wp2
    go_ret
    exact ⟨rfl, rfl⟩

theorem load_any {p b : Nat} {l : List Int} (a : Int) (w : World) (h : ArenaAt 146 w p b l) (a0 : -9223372036854775808 ≤ a) (a1 : a ≤ 9223372036854775807) :
    Calls Tryz.prog 90 #[.pointer (some ⟨p, 0, none⟩), .int .i64 a] w fun e w' => e = .returned (.tuple #[.int .u64 (loadV l a), .int .i64 (errV l.length a 1)]) ∧ w = w' := by
  have hc := h.slot
  have hl := h.len
  by_cases hf : fitsB l.length a 1 = true
  · obtain ⟨h1, _, h3⟩ := fitsB_yes hf
    have hv : loadV l a = l.getD a.toNat 0 := by unfold loadV; rw [if_pos hf]
    have he : errV l.length a 1 = 0 := by unfold errV; rw [if_pos hf]
    rw [hv, he]
    obtain ⟨k, rfl⟩ : ∃ k : Nat, a = k := ⟨a.toNat, by omega⟩
    rw [Int.toNat_natCast]
    have hx := h.cell (i := k) (by omega)
    clear hv he
    go_enter Tryz.func90, Tryz.ntmps90
    go_wp2_with ((with_reducible refine (has_any _ _ _ h a0 a1 (by decide) (by decide)).mono ?_); rintro e w' ⟨rfl, rfl⟩)
    go_ret2
    exact ⟨rfl, rfl⟩
  · have hf : fitsB l.length a 1 = false := by simpa using hf
    have hv : loadV l a = 0 := by unfold loadV; rw [hf]; rfl
    have he : errV l.length a 1 = 20 := by unfold errV; rw [hf]; rfl
    rw [hv, he]
    clear hv he
    go_enter Tryz.func90, Tryz.ntmps90
    go_wp2_with ((with_reducible refine (has_any _ _ _ h a0 a1 (by decide) (by decide)).mono ?_); rintro e w' ⟨rfl, rfl⟩)
    go_ret2
    exact ⟨rfl, rfl⟩

/-! Fill, Store -/
theorem fill_any {p b : Nat} {l : List Int} (a n x : Int) (w : World) (h : ArenaAt 146 w p b l) (a0 : -9223372036854775808 ≤ a) (a1 : a ≤ 9223372036854775807) (n0 : -9223372036854775808 ≤ n) (n1 : n ≤ 9223372036854775807) (hx : 0 ≤ x ∧ x ≤ 18446744073709551615) :
    Calls Tryz.prog 101 #[.pointer (some ⟨p, 0, none⟩), .int .i64 a, .int .i64 n, .int .u64 x] w fun e w' => e = .returned (.int .i64 (errV l.length a n)) ∧ ArenaAt 146 w' p b (fillV l a n x) ∧ Chg (· = b) w w' := by
  have hl := h.len
  by_cases hf : fitsB l.length a n = true
  · obtain ⟨h1, h2, h3⟩ := fitsB_yes hf
    have hv : fillV l a n x = layL l a.toNat (fun _ => x) n.toNat := by unfold fillV; rw [if_pos hf]
    have he : errV l.length a n = 0 := by unfold errV; rw [if_pos hf]
    rw [hv, he]
    obtain ⟨a, rfl⟩ : ∃ k : Nat, a = k := ⟨a.toNat, by omega⟩
    obtain ⟨n, rfl⟩ : ∃ k : Nat, n = k := ⟨n.toNat, by omega⟩
    rw [Int.toNat_natCast, Int.toNat_natCast]
    clear hv he
    go_enter Tryz.func101, Tryz.ntmps101
    go_wp2_with ((with_reducible refine (has_any _ _ _ h a0 a1 n0 n1).mono ?_); rintro e w' ⟨rfl, rfl⟩)
    go_loopw [16] (fun i wr => ∃ k : Nat, k ≤ n ∧ i = .int .i64 k ∧ ArenaAt 146 wr p b (layL l a (fun _ => x) k) ∧ Chg (· = b) w wr) (fun i _ => n - (intOf i).toNat)
    case atStart => exact ⟨0, Nat.zero_le _, rfl, h, Chg.refl _ _⟩
    case round =>
      obtain ⟨k, hk, rfl, ha, hch⟩ := hrel
      have hs := ha.slot
      have hfr := ha.row.free (a + k)
      rw [layL_length] at hs
      by_cases hlt : k < n
      · have hx' := ha.cell (i := a + k) (by rw [layL_length]; omega)
        have hset := ha.set (by decide) (i := a + k) hx
        have hch' := hch.setCell (p := ⟨b, a + k, none⟩) (.inl rfl) (.int .u64 x)
        clear ha
        go_wp2
        go_roundw
        case rel => exact ⟨k + 1, by omega, by go_num, hset, hch'⟩
        case measure => simp [intOf]; omega
      · obtain rfl : k = n := by omega
        go_wp2
        go_ret
        exact ⟨rfl, ha, hch⟩
  · have hf : fitsB l.length a n = false := by simpa using hf
    have hv : fillV l a n x = l := by unfold fillV; rw [hf]; rfl
    have he : errV l.length a n = 20 := by unfold errV; rw [hf]; rfl
    rw [hv, he]
    clear hv he
    go_enter Tryz.func101, Tryz.ntmps101
    go_wp2_with ((with_reducible refine (has_any _ _ _ h a0 a1 n0 n1).mono ?_); rintro e w' ⟨rfl, rfl⟩)
    go_ret
    exact ⟨rfl, h, Chg.refl _ _⟩

theorem store_any {p b : Nat} {l : List Int} (a x : Int) (w : World) (h : ArenaAt 146 w p b l) (a0 : -9223372036854775808 ≤ a) (a1 : a ≤ 9223372036854775807) (hx : 0 ≤ x ∧ x ≤ 18446744073709551615) :
    Calls Tryz.prog 87 #[.pointer (some ⟨p, 0, none⟩), .int .i64 a, .int .u64 x] w fun e w' => e = .returned (.int .i64 (errV l.length a 1)) ∧ ArenaAt 146 w' p b (fillV l a 1 x) ∧ Chg (· = b) w w' := by
  go_enter Tryz.func87, Tryz.ntmps87
  go_wp2_with ((with_reducible refine (fill_any _ _ _ _ h a0 a1 (by decide) (by decide) hx).mono ?_); rintro e w' ⟨rfl, ha, hch⟩)
  go_ret
  exact ⟨rfl, ha, hch⟩

end Go.Proofs.YtbjmeibcphmgbaaGreat

namespace Go.Proofs.YtbjmeibcphmgbaaGreat
open Go.RowKit

set_option linter.unusedSimpArgs false
set_option linter.unusedVariables false

theorem new_any (n : Nat) (w : World) (h0 : 1 ≤ n) (h1 : n ≤ 65536) :
    Calls Tryz.prog 79 #[.int .i64 n] w fun e w' => ∃ p b, e = .returned (.tuple #[.pointer (some ⟨p, 0, none⟩), .int .i64 0]) ∧ ArenaAt 146 w' p b (List.replicate n 0) ∧ w.heap.size ≤ p ∧ w.heap.size ≤ b ∧ Below w.heap.size w w' := by
  refine (new_yes n w (by omega) (by omega)).mono ?_
  rintro e w' ⟨rfl, ha, hs, hb⟩
  exact ⟨_, _, rfl, by simpa using ha, by omega, by omega, hb⟩

theorem ArenaAt.drew {t : TypeId} {w : World} {p b : Nat} {l : List Int} (h : ArenaAt t w p b l) : ArenaAt t w.drew p b l := ⟨h.head, h.row, h.len, h.fits⟩
theorem ArenaAt.lt {t : TypeId} {w : World} {p b : Nat} {l : List Int} (h : ArenaAt t w p b l) : p < w.heap.size ∧ b < w.heap.size := ⟨h.head.lt, h.row.lt⟩

end Go.Proofs.YtbjmeibcphmgbaaGreat

namespace Go.Proofs.YtbjmeibcphmgbaaGreat.Wd

/-- The greatest number that a part of d bits holds. -/
def most (d : Nat) : Nat := 2 ^ d - 1
def mask (s d : Nat) : Nat := most d <<< s
def get (w s d : Nat) : Nat := (w >>> s) &&& most d
def set (w s d v : Nat) : Nat := (w &&& (18446744073709551615 - mask s d)) ||| (v <<< s)

theorem most_lt (d : Nat) : most d < 2 ^ d := by
  unfold most; have := Nat.two_pow_pos d; omega
theorem pow_le64 {d : Nat} (h : d ≤ 64) : 2 ^ d ≤ 18446744073709551616 := by
  have := Nat.pow_le_pow_right (n := 2) (by omega) h
  simpa using this
theorem mask_lt {s d : Nat} (h : s + d ≤ 64) : mask s d < 18446744073709551616 := by
  unfold mask
  rw [Nat.shiftLeft_eq]
  have h1 : most d * 2 ^ s < 2 ^ d * 2 ^ s := Nat.mul_lt_mul_of_pos_right (most_lt d) (Nat.two_pow_pos s)
  rw [← Nat.pow_add] at h1
  have := pow_le64 (d := d + s) (by omega)
  omega
theorem testBit_out {w i : Nat} (hw : w < 18446744073709551616) (hi : 64 ≤ i) : w.testBit i = false :=
  Nat.testBit_lt_two_pow (Nat.lt_of_lt_of_le hw (by have := Nat.pow_le_pow_right (n := 2) (by omega) hi; simpa using this))

/-! ### Packing -/
/-- How far from the lowest bit the part of number k stands. -/
def sh (ds : List Nat) (k : Nat) : Nat := (ds.take k).sum

/-- The word behind the numbers whose places are listed. -/
def acc (ds vs : List Nat) (l : List Nat) : Nat := l.foldl (fun w k => set w (sh ds k) (ds.getD k 0) (vs.getD k 0)) 0
/-- What is left of a word when the parts whose places are listed are taken out. -/
def rest (ds : List Nat) (w : Nat) (l : List Nat) : Nat := l.foldl (fun w k => w &&& (18446744073709551615 - mask (sh ds k) (ds.getD k 0))) w
/-- The numbers of a word. -/
def nums (ds : List Nat) (w : Nat) (l : List Nat) : List Nat := l.map fun k => get w (sh ds k) (ds.getD k 0)
theorem nums_snoc (ds : List Nat) (w : Nat) (l : List Nat) (k : Nat) : nums ds w (l ++ [k]) = nums ds w l ++ [get w (sh ds k) (ds.getD k 0)] := by simp [nums]
theorem nums_length (ds : List Nat) (w : Nat) (l : List Nat) : (nums ds w l).length = l.length := by simp [nums]
theorem nums_getD (ds : List Nat) (w n k : Nat) (h : k < n) : (nums ds w (List.range n)).getD k 0 = get w (sh ds k) (ds.getD k 0) := by simp [nums, List.getD, h]

end Go.Proofs.YtbjmeibcphmgbaaGreat.Wd

namespace Go.Proofs.YtbjmeibcphmgbaaGreat
open Go.ChangeShapes Go.WideShapes Go.ChangeAt Go.RowKit

theorem right_yes (s d : Int) (w : World) (h1 : 0 ≤ s) (h2 : 1 ≤ d) (h3 : s + d ≤ 64) :
    Calls Tryz.prog 135 #[.agg #[.int .i64 s, .int .i64 d]] w fun e w' => e = .returned (.bool true) ∧ Below w.heap.size w w' := by
  have a1 : s < 64 := by omega
  have a2 : d ≤ 64 := by omega
  go_enter Tryz.func135, Tryz.ntmps135
  go_wp2
  go_ret
  exact ⟨rfl, (Below.refl _ _).alloc (Nat.le_refl _) _⟩

theorem most_val (d : Int) (h2 : 1 ≤ d) (h3 : d ≤ 64) : (18446744073709551615 : Int) / 2 ^ (64 - d).toNat = ((Wd.most d.toNat : Nat) : Int) := by
  obtain ⟨k, rfl⟩ : ∃ k : Nat, d = k := ⟨d.toNat, by omega⟩
  have h4 : k ≤ 64 := by omega
  rw [Int.toNat_natCast, show ((64 : Int) - (k : Int)).toNat = 64 - k from by omega]
  have e : (18446744073709551615 : Int) = ((2 ^ 64 - 1 : Nat) : Int) := by decide
  have e2 : (2 : Int) ^ (64 - k) = ((2 ^ (64 - k) : Nat) : Int) := by simp
  rw [e, e2, ← Int.natCast_ediv]
  unfold Wd.most
  congr 1
  have h5 : 2 ^ 64 = 2 ^ k * 2 ^ (64 - k) := by rw [← Nat.pow_add]; congr 1; omega
  have hp := Nat.two_pow_pos (64 - k)
  have hk := Nat.two_pow_pos k
  rw [h5]
  generalize 2 ^ (64 - k) = q at *
  generalize 2 ^ k = r at *
  refine Nat.div_eq_of_lt_le ?_ ?_
  · have : (r - 1) * q + q = r * q := by rw [Nat.sub_mul]; have := Nat.mul_le_mul_right q hk; omega
    omega
  · rw [show r - 1 + 1 = r from by omega]
    have := Nat.mul_pos hk hp
    omega

theorem most_any (s d : Int) (w : World) (h2 : 1 ≤ d) (h3 : d ≤ 64) :
    Calls Tryz.prog 136 #[.agg #[.int .i64 s, .int .i64 d]] w fun e w' => e = .returned (.int .u64 ((Wd.most d.toNat : Nat) : Int)) ∧ Below w.heap.size w w' := by
  have hv := Lib.hid (most_val d h2 h3)
  go_enter Tryz.func136, Tryz.ntmps136
  go_wp2
  go_ret
  exact ⟨by rw [← hv.out]; rfl, (Below.refl _ _).alloc (Nat.le_refl _) _⟩

/-- A part that lies in a block of its own. -/
def PartAt (w : World) (b : Nat) (s d : Int) : Prop := w.cell? ⟨b, 0, none⟩ = some (.int .i64 s) ∧ w.cell? ⟨b, 1, none⟩ = some (.int .i64 d) ∧ b < w.heap.size
theorem PartAt.below {w w' : World} {b n : Nat} {s d : Int} (h : PartAt w b s d) (hb : Below n w w') (hn : b < n) : PartAt w' b s d :=
  ⟨(hb.cell (p := ⟨b, 0, none⟩) hn).trans h.1, (hb.cell (p := ⟨b, 1, none⟩) hn).trans h.2.1, Nat.lt_of_lt_of_le h.2.2 (Nat.le_trans hb.size (Nat.le_refl _))⟩

theorem keepPart {w x y : World} {b n : Nat} {s d : Int} (h : x.cell? ⟨b, 0, none⟩ = some (.int .i64 s) ∧ x.cell? ⟨b, 1, none⟩ = some (.int .i64 d) ∧ n ≤ x.heap.size ∧ b < x.heap.size ∧ Below n w x) (hb : Below x.heap.size x y) :
    y.cell? ⟨b, 0, none⟩ = some (.int .i64 s) ∧ y.cell? ⟨b, 1, none⟩ = some (.int .i64 d) ∧ n ≤ y.heap.size ∧ b < y.heap.size ∧ Below n w y :=
  ⟨(hb.cell (p := ⟨b, 0, none⟩) h.2.2.2.1).trans h.1, (hb.cell (p := ⟨b, 1, none⟩) h.2.2.2.1).trans h.2.1, Nat.le_trans h.2.2.1 hb.size, Nat.lt_of_lt_of_le h.2.2.2.1 hb.size, h.2.2.2.2.trans (hb.mono h.2.2.1)⟩
/-- The box of a part that came in, when something has been called behind it. -/
theorem box_part {w w' : World} {s d : Int} (t : TypeId) (hb : Below (w.heap.size + 1) (w.alloc (.cells #[.int .i64 s, .int .i64 d] t)) w') :
    w'.cell? ⟨w.heap.size, 0, none⟩ = some (.int .i64 s) ∧ w'.cell? ⟨w.heap.size, 1, none⟩ = some (.int .i64 d) ∧ w.heap.size ≤ w'.heap.size ∧ w.heap.size < w'.heap.size ∧ Below w.heap.size w w' := by
  have hsz : w.heap.size < w'.heap.size := by have := hb.size; simp at this; omega
  exact ⟨(hb.cell (p := ⟨w.heap.size, 0, none⟩) (by simp)).trans (by simp), (hb.cell (p := ⟨w.heap.size, 1, none⟩) (by simp)).trans (by simp), by omega, hsz, ((Below.refl w.heap.size w).alloc (Nat.le_refl _) _).trans (hb.mono (by omega))⟩

theorem mask_val (s d : Int) (h1 : 0 ≤ s) (h2 : 1 ≤ d) (h3 : s + d ≤ 64) : IntKind.u64.wrap (((Wd.most d.toNat : Nat) : Int) * 2 ^ s.toNat) = ((Wd.mask s.toNat d.toNat : Nat) : Int) := by
  have hk := Wd.mask_lt (s := s.toNat) (d := d.toNat) (by omega)
  have e2 : (2 : Int) ^ s.toNat = ((2 ^ s.toNat : Nat) : Int) := by simp
  rw [e2, ← Int.natCast_mul, IntKind.wrap_u64]
  unfold Wd.mask at *
  rw [Nat.shiftLeft_eq] at *
  omega

theorem mask_any (s d : Int) (w : World) (h1 : 0 ≤ s) (h2 : 1 ≤ d) (h3 : s + d ≤ 64) :
    Calls Tryz.prog 137 #[.agg #[.int .i64 s, .int .i64 d]] w fun e w' => e = .returned (.int .u64 ((Wd.mask s.toNat d.toNat : Nat) : Int)) ∧ Below w.heap.size w w' := by
  have hv := Lib.hid (mask_val s d h1 h2 h3)
  go_enter Tryz.func137, Tryz.ntmps137
  go_wp2_with (go_at_call 135; refine (right_yes _ _ _ h1 h2 h3).mono ?_; rintro e w' ⟨rfl, hb⟩)
  obtain ⟨hc0, hc1, hsz, hsz', hbw⟩ := box_part 158 (by simpa using hb)
  clear hb
  go_region_held3 (fun x => x.cell? ⟨w.heap.size, 0, none⟩ = some (.int .i64 s) ∧ x.cell? ⟨w.heap.size, 1, none⟩ = some (.int .i64 d) ∧ w.heap.size ≤ x.heap.size ∧ w.heap.size < x.heap.size ∧ Below w.heap.size w x) (first | exact ⟨hc0, hc1, hsz, hsz', hbw.drew⟩ | exact keepPart (by assumption) hb2)
    (first | (go_at_call 136; refine (most_any _ _ _ h2 (by omega)).mono ?_; rintro e w2 ⟨rfl, hb2⟩))
  go_wp2
  go_ret
  exact ⟨by rw [← hv.out]; rfl, (‹_ ∧ _ ∧ _ ∧ _ ∧ Below w.heap.size w _›).2.2.2.2⟩

theorem get_val (a s d : Int) (h0 : 0 ≤ a) (h1 : a < 18446744073709551616) (h2 : d ≤ 64) :
    bits .and .u64 (a / 2 ^ s.toNat) ((Wd.most d.toNat : Nat) : Int) = ((Wd.get a.toNat s.toNat d.toNat : Nat) : Int) := by
  have hm := Wd.most_lt d.toNat
  have hp := Wd.pow_le64 (d := d.toNat) (by omega)
  obtain ⟨k, rfl⟩ : ∃ k : Nat, a = k := ⟨a.toNat, by omega⟩
  have e2 : (2 : Int) ^ s.toNat = ((2 ^ s.toNat : Nat) : Int) := by simp
  rw [e2, ← Int.natCast_ediv]
  have hd : k / 2 ^ s.toNat ≤ k := Nat.div_le_self _ _
  rw [u64_and_nat _ _ (by omega) (by omega), Int.toNat_natCast]
  unfold Wd.get
  rw [Nat.shiftRight_eq_div_pow]
theorem set_val (a s d v : Int) (h0 : 0 ≤ a) (h1 : a < 18446744073709551616) (g0 : 0 ≤ s) (g1 : 1 ≤ d) (g2 : s + d ≤ 64) (h2 : 0 ≤ v) (h3 : v ≤ ((Wd.most d.toNat : Nat) : Int)) :
    bits .or .u64 (bits .andNot .u64 a ((Wd.mask s.toNat d.toNat : Nat) : Int)) (IntKind.u64.wrap (v * 2 ^ s.toNat)) = ((Wd.set a.toNat s.toNat d.toNat v.toNat : Nat) : Int) := by
  have hm := Wd.most_lt d.toNat
  obtain ⟨k, rfl⟩ : ∃ k : Nat, a = k := ⟨a.toNat, by omega⟩
  obtain ⟨u, rfl⟩ : ∃ u : Nat, v = u := ⟨v.toNat, by omega⟩
  obtain ⟨s', rfl⟩ : ∃ k : Nat, s = k := ⟨s.toNat, by omega⟩
  obtain ⟨d', rfl⟩ : ∃ k : Nat, d = k := ⟨d.toNat, by omega⟩
  simp only [Int.toNat_natCast] at *
  have hk := Wd.mask_lt (s := s') (d := d') (by omega)
  have e2 : (2 : Int) ^ s' = ((2 ^ s' : Nat) : Int) := by simp
  have hw : (u : Int) * 2 ^ s' < 18446744073709551616 ∧ 0 ≤ (u : Int) * 2 ^ s' := by
    rw [e2, ← Int.natCast_mul]
    have h4 : u * 2 ^ s' < 2 ^ d' * 2 ^ s' := Nat.mul_lt_mul_of_pos_right (by omega) (Nat.two_pow_pos s')
    rw [← Nat.pow_add] at h4
    have := Wd.pow_le64 (d := d' + s') (by omega)
    omega
  rw [IntKind.wrap_u64, Int.emod_eq_of_lt hw.2 hw.1, u64_andNot_nat _ _ (by omega) hk, e2, ← Int.natCast_mul]
  have h5 : k &&& (18446744073709551615 - Wd.mask s' d') ≤ k := Nat.and_le_left
  rw [u64_or_nat _ _ (by omega) (by rw [e2, ← Int.natCast_mul] at hw; omega)]
  unfold Wd.set
  rw [Nat.shiftLeft_eq]

theorem get_any (a s d : Int) (w : World) (h0 : 0 ≤ a) (h4 : a < 18446744073709551616) (h1 : 0 ≤ s) (h2 : 1 ≤ d) (h3 : s + d ≤ 64) :
    Calls Tryz.prog 133 #[.int .u64 a, .agg #[.int .i64 s, .int .i64 d]] w fun e w' => e = .returned (.int .u64 ((Wd.get a.toNat s.toNat d.toNat : Nat) : Int)) ∧ Below w.heap.size w w' := by
  have hv := Lib.hid (get_val a s d h0 h4 (by omega))
  go_enter Tryz.func133, Tryz.ntmps133
  go_wp2_with (go_at_call 135; refine (right_yes _ _ _ h1 h2 h3).mono ?_; rintro e w' ⟨rfl, hb⟩)
  obtain ⟨hc0, hc1, hsz, hsz', hbw⟩ := box_part 158 (by simpa using hb)
  clear hb
  go_region_held3 (fun x => x.cell? ⟨w.heap.size, 0, none⟩ = some (.int .i64 s) ∧ x.cell? ⟨w.heap.size, 1, none⟩ = some (.int .i64 d) ∧ w.heap.size ≤ x.heap.size ∧ w.heap.size < x.heap.size ∧ Below w.heap.size w x) (first | exact ⟨hc0, hc1, hsz, hsz', hbw.drew⟩ | exact keepPart (by assumption) hb2)
    (first | (go_at_call 136; refine (most_any _ _ _ h2 (by omega)).mono ?_; rintro e w2 ⟨rfl, hb2⟩))
  go_wp2
  go_ret
  exact ⟨by rw [← hv.out]; rfl, (‹_ ∧ _ ∧ _ ∧ _ ∧ Below w.heap.size w _›).2.2.2.2⟩

theorem set_yes (a s d v : Int) (w : World) (h0 : 0 ≤ a) (h4 : a < 18446744073709551616) (h1 : 0 ≤ s) (h2 : 1 ≤ d) (h3 : s + d ≤ 64) (h5 : 0 ≤ v) (h6 : v ≤ ((Wd.most d.toNat : Nat) : Int)) :
    Calls Tryz.prog 131 #[.int .u64 a, .agg #[.int .i64 s, .int .i64 d], .int .u64 v] w fun e w' => e = .returned (.tuple #[.int .u64 ((Wd.set a.toNat s.toNat d.toNat v.toNat : Nat) : Int), .bool true]) ∧ Below w.heap.size w w' := by
  have hv := Lib.hid (set_val a s d v h0 h4 h1 h2 h3 h5 h6)
  go_enter Tryz.func131, Tryz.ntmps131
  go_wp2_with fail
  refine (right_yes _ _ _ h1 h2 h3).mono ?_
  rintro e w' ⟨rfl, hb⟩
  obtain ⟨hc0, hc1, hsz, hsz', hbw⟩ := box_part 158 (by simpa using hb)
  clear hb
  go_wp2_with fail
  refine (most_any _ _ _ h2 (by omega)).mono ?_
  rintro e w3 ⟨rfl, hb3⟩
  obtain ⟨hc0, hc1, hsz, hsz', hbw⟩ := keepPart ⟨hc0, hc1, hsz, hsz', hbw⟩ hb3
  clear hb3
  go_wp2_with fail
  go_region_held3 (fun x => x.cell? ⟨w.heap.size, 0, none⟩ = some (.int .i64 s) ∧ x.cell? ⟨w.heap.size, 1, none⟩ = some (.int .i64 d) ∧ w.heap.size ≤ x.heap.size ∧ w.heap.size < x.heap.size ∧ Below w.heap.size w x) (first | exact ⟨hc0, hc1, hsz, hsz', hbw.drew⟩ | exact keepPart (by assumption) hb2)
    (first | (go_at_call 137; refine (mask_any _ _ _ h1 h2 h3).mono ?_; rintro e w2 ⟨rfl, hb2⟩))
  go_wp2
  go_ret2
  exact ⟨by rw [← hv.out]; rfl, (‹_ ∧ _ ∧ _ ∧ _ ∧ Below w.heap.size w _›).2.2.2.2⟩

end Go.Proofs.YtbjmeibcphmgbaaGreat

namespace Go.Proofs.YtbjmeibcphmgbaaGreat
open Go.ChangeShapes Go.WideShapes Go.ChangeAt Go.RowKit

set_option linter.unusedSimpArgs false
set_option linter.unusedVariables false

theorem part_any (f t : Int) (w : World) (h0 : 0 ≤ f) (h1 : f ≤ t) (h2 : t ≤ 64) :
    Calls Tryz.prog 132 #[.int .i64 f, .int .i64 t] w fun e w' => e = .returned (.agg #[.int .i64 f, .int .i64 (t - f)]) ∧ Below w.heap.size w w' := by
  have hw : IntKind.i64.wrap (t - f) = t - f := IntWalk.i64_in _ (by omega)
  go_enter Tryz.func132, Tryz.ntmps132
  go_wp2
  refine bodyPost_ret (v := .agg #[.int .i64 f, .int .i64 (t - f)]) ?_ rfl ⟨rfl, (Below.refl _ w).alloc (Nat.le_refl _) _⟩
  simp [results, Tryz.f132, go_sem]

theorem set_zero {n s d : Nat} (h : s + d ≤ 64) (hn : n < 2 ^ d) : Wd.set 0 s d n = n * 2 ^ s := by
  unfold Wd.set
  rw [Nat.zero_and, Nat.zero_or, Nat.shiftLeft_eq]
theorem get_mod (w s d : Nat) : Wd.get w s d = w / 2 ^ s % 2 ^ d := by
  unfold Wd.get Wd.most
  rw [Nat.shiftRight_eq_div_pow, Nat.and_two_pow_sub_one_eq_mod]

theorem lay_at (n s t : Nat) (hs : s < t) (ht : t ≤ 64) (hn : n < 2 ^ (t - s)) (hm : n < 9223372036854775808) (w : World) :
    Calls Tryz.prog 119 #[.int .i64 n, .int .i64 s, .int .i64 t] w fun e w' => e = .returned (.int .u64 ((n * 2 ^ s : Nat) : Int)) ∧ Below w.heap.size w w' := by
  have hM : (n : Int) ≤ ((Wd.most ((t : Int) - (s : Int)).toNat : Nat) : Int) := by
    rw [show ((t : Int) - (s : Int)).toNat = t - s from by omega]; unfold Wd.most; have := Nat.two_pow_pos (t - s); omega
  have hP := fun w => part_any (s : Int) (t : Int) w (by omega) (by omega) (by omega)
  have hS := fun w => set_yes 0 (s : Int) ((t : Int) - (s : Int)) (n : Int) w (by omega) (by omega) (by omega) (by omega) (by omega) (by omega) hM
  have hv : ((Wd.set (0 : Int).toNat (s : Int).toNat ((t : Int) - (s : Int)).toNat (n : Int).toNat : Nat) : Int) = ((n * 2 ^ s : Nat) : Int) := by
    rw [show ((t : Int) - (s : Int)).toNat = t - s from by omega, Int.toNat_natCast, Int.toNat_natCast]
    rw [show (0 : Int).toNat = 0 from rfl, set_zero (by omega) hn]
  simp only [hv] at hS
  clear hv
  obtain ⟨u, hu⟩ : ∃ u, n * 2 ^ s = u := ⟨_, rfl⟩
  rw [hu] at hS ⊢
  clear hu
  have HS := Lib.hid hS
  have hc : IntKind.u64.wrap (n : Int) = (n : Int) := by rw [IntKind.wrap_u64]; omega
  clear hS hM
  go_enter Tryz.func119, Tryz.ntmps119
  go_wp2_with fail
  refine (hP _).mono ?_
  rintro e x ⟨rfl, hb⟩
  have hs1 := hb.size
  go_wp2_with fail
  refine (HS.out _).mono ?_
  rintro e y ⟨rfl, hb2⟩
  go_wp2
  go_ret
  exact ⟨rfl, hb.trans (hb2.mono hs1)⟩

theorem read_at (a s t : Nat) (hs : s < t) (ht : t ≤ 64) (hd : t - s ≤ 63) (ha : a < 18446744073709551616) (w : World) :
    Calls Tryz.prog 120 #[.int .u64 a, .int .i64 s, .int .i64 t] w fun e w' => e = .returned (.int .i64 ((a / 2 ^ s % 2 ^ (t - s) : Nat) : Int)) ∧ Below w.heap.size w w' := by
  have hP := fun w => part_any (s : Int) (t : Int) w (by omega) (by omega) (by omega)
  have hG := fun w => get_any (a : Int) (s : Int) ((t : Int) - (s : Int)) w (by omega) (by omega) (by omega) (by omega) (by omega)
  simp only [show ((t : Int) - (s : Int)).toNat = t - s from by omega, Int.toNat_natCast, get_mod] at hG
  have hl : a / 2 ^ s % 2 ^ (t - s) < 9223372036854775808 := by
    have h1 := Nat.mod_lt (a / 2 ^ s) (Nat.two_pow_pos (t - s))
    have h2 := Nat.pow_le_pow_right (n := 2) (by omega) hd
    have h3 : (2 : Nat) ^ 63 = 9223372036854775808 := by decide
    omega
  obtain ⟨v, hv⟩ : ∃ v, a / 2 ^ s % 2 ^ (t - s) = v := ⟨_, rfl⟩
  rw [hv] at hG hl ⊢
  have HG := Lib.hid hG
  have hc : IntKind.i64.wrap (v : Int) = (v : Int) := IntWalk.i64_in _ (by omega)
  clear hG hv
  go_enter Tryz.func120, Tryz.ntmps120
  go_wp2_with fail
  refine (hP _).mono ?_
  rintro e x ⟨rfl, hb⟩
  have hs1 := hb.size
  go_wp2_with fail
  refine (HG.out _).mono ?_
  rintro e y ⟨rfl, hb2⟩
  go_wp2
  go_ret
  exact ⟨rfl, hb.trans (hb2.mono hs1)⟩

theorem flag_any (b : Bool) (w : World) : Calls Tryz.prog 124 #[.bool b] w fun e w' => e = .returned (.int .i64 (b.toNat : Nat)) ∧ w = w' := by
  go_enter Tryz.func124, Tryz.ntmps124
  cases b
  · go_wp2
    go_ret
    exact ⟨rfl, rfl⟩
  · go_wp2
    go_ret
    exact ⟨rfl, rfl⟩

def cnt (n : Int) : Bool := decide (0 ≤ n ∧ n ≤ 8)
theorem count_any (n : Int) (w : World) : Calls Tryz.prog 134 #[.int .i64 n] w fun e w' => e = .returned (.bool (cnt n)) ∧ Below w.heap.size w w' := by
  go_enter Tryz.func134, Tryz.ntmps134
  unfold cnt
  by_cases h : 0 ≤ n
  · have d1 : decide (0 ≤ n) = true := decide_eq_true h
    by_cases h2 : n ≤ 8
    · have d2 : decide (n ≤ 8) = true := decide_eq_true h2
      rw [decide_eq_true (show 0 ≤ n ∧ n ≤ 8 from ⟨h, h2⟩)]
      go_wp2
      go_ret
      exact ⟨rfl, Below.refl _ _⟩
    · have d2 : decide (n ≤ 8) = false := decide_eq_false h2
      rw [decide_eq_false (show ¬ (0 ≤ n ∧ n ≤ 8) from fun x => h2 x.2)]
      go_wp2
      go_ret
      exact ⟨rfl, Below.refl _ _⟩
  · have d1 : decide (0 ≤ n) = false := decide_eq_false h
    rw [decide_eq_false (show ¬ (0 ≤ n ∧ n ≤ 8) from fun x => h x.1)]
    go_wp2
    go_ret
    exact ⟨rfl, Below.refl _ _⟩


/-- Whether a shape may be. -/
def shB (p d : Int) (wk fn : Bool) : Bool := if wk then decide (p = 1) && decide (d = 0) && !fn else cnt p && cnt d
abbrev shV (p d : Int) (wk fn : Bool) : Value := .agg #[.int .i64 p, .int .i64 d, .bool wk, .bool fn]
/-- A shape that lies in block k, behind w. -/
abbrev ShAt (w x : World) (k : Nat) (p d : Int) (wk fn : Bool) : Prop :=
  x.cell? ⟨k, 0, none⟩ = some (.int .i64 p) ∧ x.cell? ⟨k, 1, none⟩ = some (.int .i64 d) ∧ x.cell? ⟨k, 2, none⟩ = some (.bool wk) ∧ x.cell? ⟨k, 3, none⟩ = some (.bool fn) ∧ w.heap.size ≤ x.heap.size ∧ k < x.heap.size ∧ Below w.heap.size w x
theorem keepSh {w x y : World} {k : Nat} {p d : Int} {wk fn : Bool} (h : ShAt w x k p d wk fn) (hb : Below x.heap.size x y) : ShAt w y k p d wk fn := by
  obtain ⟨c0, c1, c2, c3, hs, hk, hB⟩ := h
  exact ⟨(hb.cell (p := ⟨k, 0, none⟩) hk).trans c0, (hb.cell (p := ⟨k, 1, none⟩) hk).trans c1, (hb.cell (p := ⟨k, 2, none⟩) hk).trans c2, (hb.cell (p := ⟨k, 3, none⟩) hk).trans c3,
    Nat.le_trans hs hb.size, Nat.lt_of_lt_of_le hk hb.size, hB.trans (hb.mono hs)⟩
theorem newSh (w : World) (p d : Int) (wk fn : Bool) (ty : TypeId) : ShAt w (w.alloc (.cells #[.int .i64 p, .int .i64 d, .bool wk, .bool fn] ty)) w.heap.size p d wk fn :=
  ⟨by simp, by simp, by simp, by simp, by simp, by simp, (Below.refl _ _).alloc (Nat.le_refl _) _⟩

theorem right_sh (p d : Int) (wk fn : Bool) (w : World) :
    Calls Tryz.prog 121 #[shV p d wk fn] w fun e w' => e = .returned (.bool (shB p d wk fn)) ∧ Below w.heap.size w w' := by
  go_enter Tryz.func121, Tryz.ntmps121
  cases wk
  · have hP := count_any p
    have hD := count_any d
    rw [show shB p d false fn = (cnt p && cnt d) from rfl]
    generalize cnt p = cp at *
    generalize cnt d = cd at *
    cases cp
    · go_wp2_with fail
      refine (hP _).mono ?_
      rintro e x ⟨rfl, hb⟩
      go_wp2
      go_ret
      exact ⟨rfl, ((Below.refl _ w).alloc (Nat.le_refl _) _).trans (hb.mono (by simp))⟩
    · go_wp2_with fail
      refine (hP _).mono ?_
      rintro e x ⟨rfl, hb⟩
      have h0 := keepSh (newSh w p d false fn 45) hb
      clear hb
      obtain ⟨c0, c1, c2, c3, s1, k1, hB⟩ := h0
      go_wp2_with fail
      refine (hD _).mono ?_
      rintro e y ⟨rfl, hb2⟩
      go_wp2
      go_ret
      exact ⟨rfl, hB.trans (hb2.mono s1)⟩
  · rw [show shB p d true fn = (decide (p = 1) && decide (d = 0) && !fn) from rfl]
    go_wp2
    all_goals
      go_ret
      exact ⟨by simp [*], (Below.refl _ w).alloc (Nat.le_refl _) _⟩

theorem size_yes (p d : Nat) (wk fn : Bool) (h : shB p d wk fn = true) (hp : p ≤ 8) (hd : d ≤ 8) (w : World) :
    Calls Tryz.prog 92 #[shV p d wk fn] w fun e w' => e = .returned (.tuple #[.int .i64 (3 + (p : Int) + (d : Int)), .bool true]) ∧ Below w.heap.size w w' := by
  have hR := right_sh p d wk fn
  rw [h] at hR
  have i1 : IntKind.i64.wrap (3 + (p : Int)) = 3 + (p : Int) := IntWalk.i64_in _ (by omega)
  have i2 : IntKind.i64.wrap (3 + (p : Int) + (d : Int)) = 3 + (p : Int) + (d : Int) := IntWalk.i64_in _ (by omega)
  clear h
  go_enter Tryz.func92, Tryz.ntmps92
  go_wp2_with fail
  refine (hR _).mono ?_
  rintro e x ⟨rfl, hb⟩
  obtain ⟨c0, c1, c2, c3, s1, k1, hB⟩ := keepSh (newSh w p d wk fn 45) hb
  clear hb
  go_wp2
  go_ret2
  exact ⟨rfl, hB⟩

/-! ### Parts as they are named -/
theorem lay_0_1 (n : Nat) (hn : n < 2) (hm : n < 9223372036854775808) (w : World) : Calls Tryz.prog 119 #[.int .i64 n, .int .i64 0, .int .i64 1] w fun e w' => e = .returned (.int .u64 (n * 1 : Nat)) ∧ Below w.heap.size w w' :=
  lay_at n 0 1 (by omega) (by omega) (by omega) hm w
theorem lay_1_2 (n : Nat) (hn : n < 2) (hm : n < 9223372036854775808) (w : World) : Calls Tryz.prog 119 #[.int .i64 n, .int .i64 1, .int .i64 2] w fun e w' => e = .returned (.int .u64 (n * 2 : Nat)) ∧ Below w.heap.size w w' :=
  lay_at n 1 2 (by omega) (by omega) (by omega) hm w
theorem lay_1_5 (n : Nat) (hn : n < 16) (hm : n < 9223372036854775808) (w : World) : Calls Tryz.prog 119 #[.int .i64 n, .int .i64 1, .int .i64 5] w fun e w' => e = .returned (.int .u64 (n * 2 : Nat)) ∧ Below w.heap.size w w' :=
  lay_at n 1 5 (by omega) (by omega) (by omega) hm w
theorem lay_5_9 (n : Nat) (hn : n < 16) (hm : n < 9223372036854775808) (w : World) : Calls Tryz.prog 119 #[.int .i64 n, .int .i64 5, .int .i64 9] w fun e w' => e = .returned (.int .u64 (n * 32 : Nat)) ∧ Below w.heap.size w w' :=
  lay_at n 5 9 (by omega) (by omega) (by omega) hm w
theorem lay_9_10 (n : Nat) (hn : n < 2) (hm : n < 9223372036854775808) (w : World) : Calls Tryz.prog 119 #[.int .i64 n, .int .i64 9, .int .i64 10] w fun e w' => e = .returned (.int .u64 (n * 512 : Nat)) ∧ Below w.heap.size w w' :=
  lay_at n 9 10 (by omega) (by omega) (by omega) hm w
theorem lay_10_11 (n : Nat) (hn : n < 2) (hm : n < 9223372036854775808) (w : World) : Calls Tryz.prog 119 #[.int .i64 n, .int .i64 10, .int .i64 11] w fun e w' => e = .returned (.int .u64 (n * 1024 : Nat)) ∧ Below w.heap.size w w' :=
  lay_at n 10 11 (by omega) (by omega) (by omega) hm w
theorem lay_11_12 (n : Nat) (hn : n < 2) (hm : n < 9223372036854775808) (w : World) : Calls Tryz.prog 119 #[.int .i64 n, .int .i64 11, .int .i64 12] w fun e w' => e = .returned (.int .u64 (n * 2048 : Nat)) ∧ Below w.heap.size w w' :=
  lay_at n 11 12 (by omega) (by omega) (by omega) hm w
theorem lay_2_64 (n : Nat) (hn : n < 4611686018427387904) (hm : n < 9223372036854775808) (w : World) : Calls Tryz.prog 119 #[.int .i64 n, .int .i64 2, .int .i64 64] w fun e w' => e = .returned (.int .u64 (n * 4 : Nat)) ∧ Below w.heap.size w w' :=
  lay_at n 2 64 (by omega) (by omega) (by omega) hm w
theorem lay_1_64 (n : Nat) (hn : n < 9223372036854775808) (hm : n < 9223372036854775808) (w : World) : Calls Tryz.prog 119 #[.int .i64 n, .int .i64 1, .int .i64 64] w fun e w' => e = .returned (.int .u64 (n * 2 : Nat)) ∧ Below w.heap.size w w' :=
  lay_at n 1 64 (by omega) (by omega) (by omega) hm w
theorem read_1_5 (a : Nat) (ha : a < 18446744073709551616) (w : World) : Calls Tryz.prog 120 #[.int .u64 a, .int .i64 1, .int .i64 5] w fun e w' => e = .returned (.int .i64 (a / 2 % 16 : Nat)) ∧ Below w.heap.size w w' :=
  read_at a 1 5 (by omega) (by omega) (by omega) ha w
theorem read_5_9 (a : Nat) (ha : a < 18446744073709551616) (w : World) : Calls Tryz.prog 120 #[.int .u64 a, .int .i64 5, .int .i64 9] w fun e w' => e = .returned (.int .i64 (a / 32 % 16 : Nat)) ∧ Below w.heap.size w w' :=
  read_at a 5 9 (by omega) (by omega) (by omega) ha w
theorem read_9_10 (a : Nat) (ha : a < 18446744073709551616) (w : World) : Calls Tryz.prog 120 #[.int .u64 a, .int .i64 9, .int .i64 10] w fun e w' => e = .returned (.int .i64 (a / 512 % 2 : Nat)) ∧ Below w.heap.size w w' :=
  read_at a 9 10 (by omega) (by omega) (by omega) ha w
theorem read_10_11 (a : Nat) (ha : a < 18446744073709551616) (w : World) : Calls Tryz.prog 120 #[.int .u64 a, .int .i64 10, .int .i64 11] w fun e w' => e = .returned (.int .i64 (a / 1024 % 2 : Nat)) ∧ Below w.heap.size w w' :=
  read_at a 10 11 (by omega) (by omega) (by omega) ha w
theorem read_11_12 (a : Nat) (ha : a < 18446744073709551616) (w : World) : Calls Tryz.prog 120 #[.int .u64 a, .int .i64 11, .int .i64 12] w fun e w' => e = .returned (.int .i64 (a / 2048 % 2 : Nat)) ∧ Below w.heap.size w w' :=
  read_at a 11 12 (by omega) (by omega) (by omega) ha w
theorem read_2_64 (a : Nat) (ha : a < 18446744073709551616) (w : World) : Calls Tryz.prog 120 #[.int .u64 a, .int .i64 2, .int .i64 64] w fun e w' => e = .returned (.int .i64 (a / 4 % 4611686018427387904 : Nat)) ∧ Below w.heap.size w w' :=
  read_at a 2 64 (by omega) (by omega) (by omega) ha w
theorem lay_one_0_1 (w : World) : Calls Tryz.prog 119 #[.int .i64 1, .int .i64 0, .int .i64 1] w fun e w' => e = .returned (.int .u64 1) ∧ Below w.heap.size w w' := lay_0_1 1 (by omega) (by omega) w
theorem lay_one_1_2 (w : World) : Calls Tryz.prog 119 #[.int .i64 1, .int .i64 1, .int .i64 2] w fun e w' => e = .returned (.int .u64 2) ∧ Below w.heap.size w w' := lay_1_2 1 (by omega) (by omega) w

/-! ### Heads -/
def headN (p d : Nat) (wk fn fr : Bool) : Nat := 1 + 2 * p + 32 * d + 512 * wk.toNat + 1024 * fn.toNat + 2048 * fr.toNat

theorem or_val (x y k z : Nat) (hx : x < 2 ^ k) (hy : y = 2 ^ k * z) (h1 : x < 18446744073709551616) (h2 : y < 18446744073709551616) : bits .or .u64 (x : Int) (y : Int) = ((x + y : Nat) : Int) := by
  rw [u64_or_nat _ _ h1 h2, Nat.or_comm, hy, ← Nat.two_pow_add_eq_or_of_lt hx, Nat.add_comm]

set_option maxRecDepth 100000 in
set_option maxHeartbeats 2000000 in
theorem head_yes (p d : Nat) (wk fn fr : Bool) (h : shB p d wk fn = true) (hp : p ≤ 8) (hd : d ≤ 8) (w : World) :
    Calls Tryz.prog 100 #[shV p d wk fn, .bool fr] w fun e w' => e = .returned (.tuple #[.int .u64 (headN p d wk fn fr : Nat), .bool true]) ∧ Below w.heap.size w w' := by
  have hR := right_sh p d wk fn
  rw [h] at hR
  clear h
  have F1 := flag_any wk
  have F2 := flag_any fn
  have F3 := flag_any fr
  have b1 : wk.toNat < 2 := by cases wk <;> decide
  have b2 : fn.toNat < 2 := by cases fn <;> decide
  have b3 : fr.toNat < 2 := by cases fr <;> decide
  unfold headN
  generalize wk.toNat = k1 at *
  generalize fn.toNat = k2 at *
  generalize fr.toNat = k3 at *
  have L1 := lay_1_5 p (by omega) (by omega)
  have L2 := lay_5_9 d (by omega) (by omega)
  have L3 := lay_9_10 k1 (by omega) (by omega)
  have L4 := lay_10_11 k2 (by omega) (by omega)
  have L5 := lay_11_12 k3 (by omega) (by omega)
  have o1 : bits .or .u64 1 _ = _ := or_val 1 (p * 2) 1 p (by omega) (by omega) (by omega) (by omega)
  have o2 := or_val (1 + p * 2) (d * 32) 5 d (by omega) (by omega) (by omega) (by omega)
  have o3 := or_val (1 + p * 2 + d * 32) (k1 * 512) 9 k1 (by omega) (by omega) (by omega) (by omega)
  have o4 := or_val (1 + p * 2 + d * 32 + k1 * 512) (k2 * 1024) 10 k2 (by omega) (by omega) (by omega) (by omega)
  have o5 := or_val (1 + p * 2 + d * 32 + k1 * 512 + k2 * 1024) (k3 * 2048) 11 k3 (by omega) (by omega) (by omega) (by omega)
  obtain ⟨v5, hv5⟩ : ∃ v, 1 + p * 2 + d * 32 + k1 * 512 + k2 * 1024 + k3 * 2048 = v := ⟨_, rfl⟩
  have hv : Hid (1 + 2 * p + 32 * d + 512 * k1 + 1024 * k2 + 2048 * k3 = v5) := Lib.hid (by omega)
  rw [hv5] at o5
  clear hv5
  generalize 1 + p * 2 + d * 32 + k1 * 512 + k2 * 1024 = v4 at *
  generalize 1 + p * 2 + d * 32 + k1 * 512 = v3 at *
  generalize 1 + p * 2 + d * 32 = v2 at *
  generalize 1 + p * 2 = v1 at *
  generalize p * 2 = u1 at *
  generalize d * 32 = u2 at *
  generalize k1 * 512 = u3 at *
  generalize k2 * 1024 = u4 at *
  generalize k3 * 2048 = u5 at *
  go_enter Tryz.func100, Tryz.ntmps100
  go_wp2_with fail
  refine (hR _).mono ?_
  rintro e x ⟨rfl, hb⟩
  obtain ⟨c0, c1, c2, c3, s1, l1, hB⟩ := keepSh (newSh w p d wk fn 45) hb
  clear hb
  go_wp2_with fail
  refine (lay_one_0_1 _).mono ?_
  rintro e x2 ⟨rfl, hb⟩
  obtain ⟨c0, c1, c2, c3, s1, l1, hB⟩ := keepSh ⟨c0, c1, c2, c3, s1, l1, hB⟩ hb
  clear hb
  go_wp2_with fail
  refine (L1 _).mono ?_
  rintro e x ⟨rfl, hb⟩
  obtain ⟨c0, c1, c2, c3, s1, l1, hB⟩ := keepSh ⟨c0, c1, c2, c3, s1, l1, hB⟩ hb
  clear hb
  go_wp2_with fail
  refine (L2 _).mono ?_
  rintro e x ⟨rfl, hb⟩
  obtain ⟨c0, c1, c2, c3, s1, l1, hB⟩ := keepSh ⟨c0, c1, c2, c3, s1, l1, hB⟩ hb
  clear hb
  go_wp2_with fail
  refine (F1 _).mono ?_
  rintro e x ⟨rfl, rfl⟩
  go_wp2_with fail
  refine (L3 _).mono ?_
  rintro e x ⟨rfl, hb⟩
  obtain ⟨c0, c1, c2, c3, s1, l1, hB⟩ := keepSh ⟨c0, c1, c2, c3, s1, l1, hB⟩ hb
  clear hb
  go_wp2_with fail
  refine (F2 _).mono ?_
  rintro e x ⟨rfl, rfl⟩
  go_wp2_with fail
  refine (L4 _).mono ?_
  rintro e x ⟨rfl, hb⟩
  obtain ⟨c0, c1, c2, c3, s1, l1, hB⟩ := keepSh ⟨c0, c1, c2, c3, s1, l1, hB⟩ hb
  clear hb
  go_wp2_with fail
  refine (F3 _).mono ?_
  rintro e x ⟨rfl, rfl⟩
  go_wp2_with fail
  refine (L5 _).mono ?_
  rintro e x ⟨rfl, hb⟩
  obtain ⟨c0, c1, c2, c3, s1, l1, hB⟩ := keepSh ⟨c0, c1, c2, c3, s1, l1, hB⟩ hb
  clear hb
  go_wp2
  go_ret2
  exact ⟨by rw [hv.out]; rfl, hB⟩

set_option maxRecDepth 100000 in
theorem head_no (p d : Int) (wk fn fr : Bool) (h : shB p d wk fn = false) (w : World) :
    Calls Tryz.prog 100 #[shV p d wk fn, .bool fr] w fun e w' => e = .returned (.tuple #[.int .u64 0, .bool false]) ∧ Below w.heap.size w w' := by
  have hR := right_sh p d wk fn
  rw [h] at hR
  clear h
  go_enter Tryz.func100, Tryz.ntmps100
  go_wp2_with fail
  refine (hR _).mono ?_
  rintro e x ⟨rfl, hb⟩
  obtain ⟨c0, c1, c2, c3, s1, l1, hB⟩ := keepSh (newSh w p d wk fn 45) hb
  clear hb
  go_wp2
  go_ret2
  exact ⟨rfl, hB⟩

/-- What Head tells of any shape. -/
def headV (p d : Int) (wk fn fr : Bool) : Nat := if shB p d wk fn then headN p.toNat d.toNat wk fn fr else 0
theorem sh_small {p d : Int} {wk fn : Bool} (h : shB p d wk fn = true) : 0 ≤ p ∧ p ≤ 8 ∧ 0 ≤ d ∧ d ≤ 8 := by
  unfold shB cnt at h
  cases wk <;> simp at h <;> omega
theorem head_any (p d : Int) (wk fn fr : Bool) (w : World) :
    Calls Tryz.prog 100 #[shV p d wk fn, .bool fr] w fun e w' => e = .returned (.tuple #[.int .u64 (headV p d wk fn fr : Nat), .bool (shB p d wk fn)]) ∧ Below w.heap.size w w' := by
  cases h : shB p d wk fn
  · have := head_no p d wk fn fr h w
    unfold headV
    rw [h]
    exact this
  · have hs := sh_small h
    obtain ⟨p', rfl⟩ : ∃ k : Nat, p = k := ⟨p.toNat, by omega⟩
    obtain ⟨d', rfl⟩ : ∃ k : Nat, d = k := ⟨d.toNat, by omega⟩
    have := head_yes p' d' wk fn fr h (by omega) (by omega) w
    unfold headV
    rw [h]
    exact this

/-- A block that was made behind w, and is known whole. -/
structure ResAt (w x : World) (k : Nat) (cs : Array Value) (ty : TypeId) : Prop where
  blk : BlkIs x k cs ty
  own : w.heap.size ≤ k
  below : Below w.heap.size w x
theorem ResAt.new (w : World) (cs : Array Value) (ty : TypeId) : ResAt w (w.alloc (.cells cs ty)) w.heap.size cs ty := ⟨BlkIs.new w cs ty, Nat.le_refl _, (Below.refl _ _).alloc (Nat.le_refl _) _⟩
theorem ResAt.keep {w x y : World} {k : Nat} {cs : Array Value} {ty : TypeId} (h : ResAt w x k cs ty) (hb : Below x.heap.size x y) : ResAt w y k cs ty :=
  ⟨h.blk.below hb h.blk.lt, h.own, h.below.trans (hb.mono (by have := h.blk.lt; have := h.own; omega))⟩
theorem ResAt.set {w x : World} {k : Nat} {cs : Array Value} {ty : TypeId} (h : ResAt w x k cs ty) (i : Nat) (u : Value) : ResAt w (x.setCell ⟨k, i, none⟩ u) k (cs.setIfInBounds i u) ty :=
  ⟨h.blk.set i u, h.own, h.below.setCell h.own u⟩
theorem ResAt.facts4 {w x : World} {k : Nat} {v0 v1 v2 v3 : Value} {ty : TypeId} (h : ResAt w x k #[v0, v1, v2, v3] ty) :
    (x.cell? ⟨k, 0, none⟩ = some v0 ∧ x.cell? ⟨k, 1, none⟩ = some v1 ∧ x.cell? ⟨k, 2, none⟩ = some v2 ∧ x.cell? ⟨k, 3, none⟩ = some v3) ∧
    x.frozen? ⟨k, 0, none⟩ = false ∧ x.frozen? ⟨k, 1, none⟩ = false ∧ x.frozen? ⟨k, 2, none⟩ = false ∧ x.frozen? ⟨k, 3, none⟩ = false ∧ k < x.heap.size :=
  ⟨⟨h.blk.cell 0, h.blk.cell 1, h.blk.cell 2, h.blk.cell 3⟩, h.blk.free 0, h.blk.free 1, h.blk.free 2, h.blk.free 3, h.blk.lt⟩

/-- What a word says of a shape. -/
def hp (a : Nat) : Nat := a / 2 % 16
def hd (a : Nat) : Nat := a / 32 % 16
def hw (a : Nat) : Bool := (((a / 512 % 2 : Nat) : Int) == 1)
def hf (a : Nat) : Bool := (((a / 1024 % 2 : Nat) : Int) == 1)
def hr (a : Nat) : Bool := (((a / 2048 % 2 : Nat) : Int) == 1)
/-- Whether it is a Head. -/
def isHead (a : Nat) : Bool := shB (hp a) (hd a) (hw a) (hf a) && decide (headV (hp a) (hd a) (hw a) (hf a) (hr a) = a)

set_option maxRecDepth 100000 in
set_option maxHeartbeats 2000000 in
theorem shape_any (a : Nat) (ha : a < 18446744073709551616) (w : World) :
    Calls Tryz.prog 91 #[.int .u64 a] w fun e w' => e = .returned (if isHead a then .tuple #[shV (hp a) (hd a) (hw a) (hf a), .bool (hr a), .bool true] else .tuple #[shV 0 0 false false, .bool false, .bool false]) ∧ Below w.heap.size w w' := by
  have R1 := read_1_5 a ha
  have R2 := read_5_9 a ha
  have R3 := read_9_10 a ha
  have R4 := read_10_11 a ha
  have R5 := read_11_12 a ha
  have HD := head_any (hp a) (hd a) (hw a) (hf a) (hr a)
  have E3 : (((a / 512 % 2 : Nat) : Int) == 1) = hw a := rfl
  have E4 : (((a / 1024 % 2 : Nat) : Int) == 1) = hf a := rfl
  have E5 : (((a / 2048 % 2 : Nat) : Int) == 1) = hr a := rfl
  have eR : isHead a = (shB (hp a) (hd a) (hw a) (hf a) && decide (headV (hp a) (hd a) (hw a) (hf a) (hr a) = a)) := rfl
  rw [eR]
  rw [show a / 2 % 16 = hp a from rfl] at R1
  rw [show a / 32 % 16 = hd a from rfl] at R2
  generalize a / 512 % 2 = q3 at *
  generalize a / 1024 % 2 = q4 at *
  generalize a / 2048 % 2 = q5 at *
  generalize hp a = p at *
  generalize hd a = d at *
  generalize hw a = b3 at *
  generalize hf a = b4 at *
  generalize hr a = b5 at *
  generalize shB (p : Int) (d : Int) b3 b4 = ok at *
  generalize headV (p : Int) (d : Int) b3 b4 b5 = v at *
  clear eR
  go_enter Tryz.func91, Tryz.ntmps91
  go_wp2_with fail
  have hT := ResAt.new w #[.int .i64 0, .int .i64 0, .bool false, .bool false] 45
  refine (R1 _).mono ?_
  rintro e x ⟨rfl, hb⟩
  replace hT := hT.keep hb
  clear hb
  obtain ⟨⟨c0, c1, c2, c3⟩, f0, f1, f2, f3, l1⟩ := hT.facts4
  go_wp2_with fail
  replace hT := hT.set 0 (.int .i64 p)
  clear c0 c1 c2 c3 f0 f1 f2 f3 l1
  refine (R2 _).mono ?_
  rintro e x ⟨rfl, hb⟩
  replace hT := hT.keep hb
  clear hb
  obtain ⟨⟨c0, c1, c2, c3⟩, f0, f1, f2, f3, l1⟩ := hT.facts4
  go_wp2_with fail
  replace hT := hT.set 1 (.int .i64 d)
  clear c0 c1 c2 c3 f0 f1 f2 f3 l1
  refine (R3 _).mono ?_
  rintro e x ⟨rfl, hb⟩
  replace hT := hT.keep hb
  clear hb
  obtain ⟨⟨c0, c1, c2, c3⟩, f0, f1, f2, f3, l1⟩ := hT.facts4
  go_wp2_with fail
  replace hT := hT.set 2 (.bool b3)
  clear c0 c1 c2 c3 f0 f1 f2 f3 l1
  refine (R4 _).mono ?_
  rintro e x ⟨rfl, hb⟩
  replace hT := hT.keep hb
  clear hb
  obtain ⟨⟨c0, c1, c2, c3⟩, f0, f1, f2, f3, l1⟩ := hT.facts4
  go_wp2_with fail
  replace hT := hT.set 3 (.bool b4)
  clear c0 c1 c2 c3 f0 f1 f2 f3 l1
  refine (R5 _).mono ?_
  rintro e x ⟨rfl, hb⟩
  replace hT := hT.keep hb
  clear hb
  obtain ⟨⟨c0, c1, c2, c3⟩, f0, f1, f2, f3, l1⟩ := hT.facts4
  go_wp2_with fail
  refine (HD _).mono ?_
  rintro e x ⟨rfl, hb⟩
  replace hT := hT.keep hb
  clear hb c0 c1 c2 c3 f0 f1 f2 f3 l1 E3 E4 E5 R1 R2 R3 R4 R5 HD
  obtain ⟨⟨c0, c1, c2, c3⟩, f0, f1, f2, f3, l1⟩ := hT.facts4
  cases ok
  · go_wp2
    have hE := (((hT.set 0 (.int .i64 0)).set 1 (.int .i64 0)).set 2 (.bool false)).set 3 (.bool false)
    obtain ⟨⟨e0, e1, e2, e3⟩, _⟩ := hE.facts4
    refine bodyPost_ret (v := .tuple #[shV 0 0 false false, .bool false, .bool false]) ?_ rfl ⟨rfl, hE.below⟩
    simp [results, Tryz.f91, go_sem, e0, e1, e2, e3]
  · by_cases hva : v = a
    · subst hva
      go_wp2
      have hE := (((hT.set 0 (.int .i64 p)).set 1 (.int .i64 d)).set 2 (.bool b3)).set 3 (.bool b4)
      obtain ⟨⟨e0, e1, e2, e3⟩, _⟩ := hE.facts4
      refine bodyPost_ret (v := .tuple #[shV p d b3 b4, .bool b5, .bool true]) ?_ rfl ⟨by simp, hE.below⟩
      simp [results, Tryz.f91, go_sem, e0, e1, e2, e3]
    · have n1 : ((v : Int) = (a : Int)) = False := by simp; omega
      go_wp2
      all_goals
        have hE := (((hT.set 0 (.int .i64 0)).set 1 (.int .i64 0)).set 2 (.bool false)).set 3 (.bool false)
        obtain ⟨⟨e0, e1, e2, e3⟩, _⟩ := hE.facts4
        refine bodyPost_ret (v := .tuple #[shV 0 0 false false, .bool false, .bool false]) ?_ rfl ⟨by simp [hva], hE.below⟩
        simp [results, Tryz.f91, go_sem, e0, e1, e2, e3]

end Go.Proofs.YtbjmeibcphmgbaaGreat

namespace Go.Proofs.YtbjmeibcphmgbaaGreat
open Go.ChangeShapes Go.WideShapes Go.ChangeAt Go.RowKit

set_option linter.unusedSimpArgs false
set_option linter.unusedVariables false

theorem free_any (n : Nat) (hn : n ≤ 1099511627776) (w : World) :
    Calls Tryz.prog 102 #[.int .i64 n] w fun e w' => e = .returned (.tuple #[.int .u64 (n * 2 : Nat), .bool true]) ∧ Below w.heap.size w w' := by
  have i1 : decide ((n : Int) < 0) = false := decide_eq_false (by omega)
  have i2 : decide ((1099511627776 : Int) < (n : Int)) = false := decide_eq_false (by omega)
  have hL := lay_1_64 n (by omega) (by omega)
  generalize n * 2 = u at *
  go_enter Tryz.func102, Tryz.ntmps102
  go_wp2_with fail
  refine (hL _).mono ?_
  rintro e y ⟨rfl, hb2⟩
  go_wp2
  go_ret2
  exact ⟨rfl, hb2⟩

end Go.Proofs.YtbjmeibcphmgbaaGreat

namespace Go.Proofs.YtbjmeibcphmgbaaGreat
open Go.ChangeShapes Go.WideShapes Go.ChangeAt Go.RowKit

/-- The number that is not below 0. -/
def zigOf (n : Int) : Int := if 0 ≤ n then 2 * n else -2 * n - 1
theorem zig_val (n : Int) (h0 : -9223372036854775808 ≤ n) (h1 : n ≤ 9223372036854775807) :
    bits .xor .u64 (IntKind.u64.wrap (IntKind.u64.wrap n * 2)) (IntKind.u64.wrap (n / 9223372036854775808)) = zigOf n := by
  simp only [IntKind.wrap_u64]
  unfold zigOf
  by_cases h : 0 ≤ n
  · rw [if_pos h, show n / 9223372036854775808 = 0 from by omega, show (n % 18446744073709551616 * 2) % 18446744073709551616 = 2 * n from by omega]
    obtain ⟨k, rfl⟩ : ∃ k : Nat, n = k := ⟨n.toNat, by omega⟩
    have := bits_xor_u64_nat (2 * k) 0 (by omega) (by omega)
    simpa using this
  · rw [if_neg h, show n / 9223372036854775808 = -1 from by omega, show ((-1 : Int) % 18446744073709551616) = ((2 ^ 64 - 1 : Nat) : Int) from by decide]
    obtain ⟨k, hk⟩ : ∃ k : Nat, (n % 18446744073709551616 * 2) % 18446744073709551616 = k := ⟨((n % 18446744073709551616 * 2) % 18446744073709551616).toNat, by omega⟩
    have hk2 : k < 2 ^ 64 := by omega
    rw [hk, bits_xor_u64_nat k (2 ^ 64 - 1) (by omega) (by omega)]
    have : k ^^^ (2 ^ 64 - 1) = 2 ^ 64 - 1 - k := by
      refine Nat.eq_of_testBit_eq fun i => ?_
      rw [Nat.testBit_xor, Nat.testBit_two_pow_sub_one, show 2 ^ 64 - 1 - k = 2 ^ 64 - (k + 1) from by omega, Nat.testBit_two_pow_sub_succ hk2]
      by_cases hi : i < 64
      · simp [hi]
      · rw [Wd.testBit_out (by omega) (by omega)]; simp [hi]
    rw [this]
    omega
theorem zig_any (n : Int) (w : World) (h0 : -9223372036854775808 ≤ n) (h1 : n ≤ 9223372036854775807) :
    Calls Tryz.prog 111 #[.int .i64 n] w fun e w' => e = .returned (.int .u64 (zigOf n)) ∧ w = w' := by
  have hv := Lib.hid (zig_val n h0 h1)
  go_enter Tryz.func111, Tryz.ntmps111
  go_wp2
  go_ret
  exact ⟨by rw [← hv.out]; rfl, rfl⟩
def zagOf (a : Int) : Int := if a % 2 = 0 then a / 2 else -(a / 2) - 1
theorem zag_val (a : Int) (h0 : 0 ≤ a) (h1 : a ≤ 18446744073709551615) :
    bits .xor .i64 (a / 2) (wrap64 (-wrap64 (bits .and .u64 a 1))) = zagOf a := by
  obtain ⟨k, rfl⟩ : ∃ k : Nat, a = k := ⟨a.toNat, by omega⟩
  have e1 : bits .and .u64 (k : Int) 1 = ((k % 2 : Nat) : Int) := by
    have := u64_and_nat k 1 (by omega) (by omega)
    rw [Nat.and_one_is_mod] at this
    exact this
  rw [e1]
  unfold zagOf
  obtain ⟨q, hq⟩ : ∃ q : Nat, (k : Int) / 2 = q := ⟨k / 2, by omega⟩
  by_cases h : (k : Int) % 2 = 0
  · rw [if_pos h, show k % 2 = 0 from by omega, hq, show wrap64 (-wrap64 ((0 : Nat) : Int)) = 0 from by (simp only [wrap64]; decide)]
    have : bits .xor .i64 (q : Int) 0 = (q : Int) := by
      show IntKind.i64.wrap ((BitVec.ofInt 64 (q : Int) ^^^ BitVec.ofInt 64 0).toNat : Int) = _
      rw [show BitVec.ofInt 64 0 = 0#64 from by decide, BitVec.xor_zero, BitVec.ofInt_natCast, BitVec.toNat_ofNat, IntKind.wrap_i64]
      omega
    exact this
  · rw [if_neg h, show k % 2 = 1 from by omega, hq, show wrap64 (-wrap64 ((1 : Nat) : Int)) = -1 from by (simp only [wrap64]; decide)]
    have : bits .xor .i64 (q : Int) (-1) = -(q : Int) - 1 := by
      show IntKind.i64.wrap ((BitVec.ofInt 64 (q : Int) ^^^ BitVec.ofInt 64 (-1)).toNat : Int) = _
      rw [show BitVec.ofInt 64 (-1) = BitVec.allOnes 64 from by decide, BitVec.xor_allOnes, BitVec.ofInt_natCast, BitVec.toNat_not, BitVec.toNat_ofNat, IntKind.wrap_i64]
      omega
    exact this
theorem zag_any (a : Int) (w : World) (h0 : 0 ≤ a) (h1 : a ≤ 18446744073709551615) :
    Calls Tryz.prog 109 #[.int .u64 a] w fun e w' => e = .returned (.int .i64 (zagOf a)) ∧ w = w' := by
  have hv := Lib.hid (zag_val a h0 h1)
  go_enter Tryz.func109, Tryz.ntmps109
  go_wp2
  go_ret
  exact ⟨by rw [← hv.out]; rfl, rfl⟩

end Go.Proofs.YtbjmeibcphmgbaaGreat

namespace Go.Proofs.YtbjmeibcphmgbaaGreat
open Go.ChangeShapes Go.WideShapes Go.ChangeAt Go.RowKit

set_option linter.unusedSimpArgs false
set_option linter.unusedVariables false

/-- At place a of l there is an object. -/
structure ObjIs (l : List Int) (a p d : Nat) (wk fn fr : Bool) : Prop where
  right : shB p d wk fn = true
  ptrs : p ≤ 8
  data : d ≤ 8
  room : a + (3 + p + d) ≤ l.length
  head : l.getD a 0 = (headN p d wk fn fr : Nat)

theorem headN_lt {p d : Nat} {wk fn fr : Bool} (hp : p ≤ 8) (hd : d ≤ 8) : headN p d wk fn fr < 4096 := by
  unfold headN
  have b : ∀ b : Bool, b.toNat < 2 := by decide
  have h1 := b wk; have h2 := b fn; have h3 := b fr
  omega
theorem bool_of_nat (b : Bool) : ((b.toNat : Int) == 1) = b := by cases b <;> rfl
theorem headN_read {p d : Nat} {wk fn fr : Bool} (h1 : p ≤ 8) (h2 : d ≤ 8) :
    hp (headN p d wk fn fr) = p ∧ hd (headN p d wk fn fr) = d ∧ hw (headN p d wk fn fr) = wk ∧ hf (headN p d wk fn fr) = fn ∧ hr (headN p d wk fn fr) = fr := by
  have b : ∀ b : Bool, b.toNat < 2 := by decide
  have b1 := b wk; have b2 := b fn; have b3 := b fr
  unfold hp hd hw hf hr headN
  refine ⟨by omega, by omega, ?_, ?_, ?_⟩
  · rw [show (1 + 2 * p + 32 * d + 512 * wk.toNat + 1024 * fn.toNat + 2048 * fr.toNat) / 512 % 2 = wk.toNat from by omega]; exact bool_of_nat wk
  · rw [show (1 + 2 * p + 32 * d + 512 * wk.toNat + 1024 * fn.toNat + 2048 * fr.toNat) / 1024 % 2 = fn.toNat from by omega]; exact bool_of_nat fn
  · rw [show (1 + 2 * p + 32 * d + 512 * wk.toNat + 1024 * fn.toNat + 2048 * fr.toNat) / 2048 % 2 = fr.toNat from by omega]; exact bool_of_nat fr
theorem headN_is {p d : Nat} {wk fn fr : Bool} (h : shB p d wk fn = true) (h1 : p ≤ 8) (h2 : d ≤ 8) : isHead (headN p d wk fn fr) = true := by
  obtain ⟨e1, e2, e3, e4, e5⟩ := headN_read (wk := wk) (fn := fn) (fr := fr) h1 h2
  unfold isHead headV
  rw [e1, e2, e3, e4, e5, h]
  simp
/-- What header's Shape tells of an object's head. -/
theorem shape_head {p d : Nat} {wk fn fr : Bool} (h : shB p d wk fn = true) (h1 : p ≤ 8) (h2 : d ≤ 8) (w : World) :
    Calls Tryz.prog 91 #[.int .u64 (headN p d wk fn fr : Nat)] w fun e w' => e = .returned (.tuple #[shV p d wk fn, .bool fr, .bool true]) ∧ Below w.heap.size w w' := by
  have hl := headN_lt (wk := wk) (fn := fn) (fr := fr) h1 h2
  have := shape_any (headN p d wk fn fr) (by omega) w
  rw [headN_is h h1 h2, if_pos rfl] at this
  obtain ⟨e1, e2, e3, e4, e5⟩ := headN_read (wk := wk) (fn := fn) (fr := fr) h1 h2
  rw [e1, e2, e3, e4, e5] at this
  exact this

theorem load_in' {l : List Int} {m : Nat} (h : m < l.length) : loadV l m = l.getD m 0 ∧ errV l.length m 1 = 0 := by
  have hf : fitsB l.length m 1 = true := fitsB_of (by omega) (by omega) (by omega)
  unfold loadV errV
  rw [hf]
  exact ⟨rfl, rfl⟩
theorem store_in' {l : List Int} {m : Nat} (x : Int) (h : m < l.length) : fillV l m 1 x = l.set m x ∧ errV l.length m 1 = 0 := by
  have hf : fitsB l.length m 1 = true := fitsB_of (by omega) (by omega) (by omega)
  unfold fillV errV
  rw [hf]
  exact ⟨rfl, rfl⟩
theorem set_at' {l : List Int} {m j : Nat} {x : Int} (h : j < l.length) : (l.set m x).getD j 0 = if j = m then x else l.getD j 0 := by
  rw [List.getD_eq_getElem?_getD, List.getElem?_set]
  by_cases e : m = j
  · subst e; simp [h]
  · rw [if_neg e, if_neg (Ne.symm e), List.getD_eq_getElem?_getD]

section
variable {P b : Nat} {l : List Int} {p d : Nat} {wk fn fr : Bool}

/-- A word that is there, loaded. -/
theorem load_there (m : Nat) (w : World) (h : ArenaAt 146 w P b l) (hm : m < l.length) :
    Calls Tryz.prog 90 #[.pointer (some ⟨P, 0, none⟩), .int .i64 m] w fun e w' => e = .returned (.tuple #[.int .u64 (l.getD m 0), .int .i64 0]) ∧ w = w' := by
  have hl := h.len
  have := load_any (m : Int) w h (by omega) (by omega)
  rw [(load_in' hm).1, (load_in' hm).2] at this
  exact this
theorem store_there (m : Nat) (x : Int) (w : World) (h : ArenaAt 146 w P b l) (hm : m < l.length) (hx : 0 ≤ x ∧ x ≤ 18446744073709551615) :
    Calls Tryz.prog 87 #[.pointer (some ⟨P, 0, none⟩), .int .i64 m, .int .u64 x] w fun e w' => e = .returned (.int .i64 0) ∧ ArenaAt 146 w' P b (l.set m x) ∧ Chg (· = b) w w' := by
  have hl := h.len
  have := store_any (m : Int) x w h (by omega) (by omega) hx
  rw [(store_in' x hm).1, (store_in' x hm).2] at this
  exact this

set_option maxHeartbeats 1000000 in
theorem shape_at (a : Nat) (w : World) (h : ArenaAt 146 w P b l) (o : ObjIs l a p d wk fn fr) :
    Calls Tryz.prog 56 #[.pointer (some ⟨P, 0, none⟩), .int .i64 a] w fun e w' => e = .returned (.tuple #[shV p d wk fn, .bool fr, .int .i64 0]) ∧ Below w.heap.size w w' := by
  obtain ⟨o1, o2, o3, o4, o5⟩ := o
  have hl := h.len
  have hlt := h.lt
  have HL := load_there a _ (h.below ((Below.refl _ w).alloc (Nat.le_refl _) (.cells #[.int .i64 0, .int .i64 0, .bool false, .bool false] 45)) hlt.1 hlt.2) (by omega)
  rw [o5] at HL
  have HS := shape_head (fr := fr) o1 o2 o3
  have HZ := size_yes p d wk fn o1 o2 o3
  generalize headN p d wk fn fr = v at *
  have i1 : IntKind.i64.wrap ((l.length : Int) - (a : Int)) = (l.length : Int) - (a : Int) := IntWalk.i64_in _ (by omega)
  have i2 : decide ((l.length : Int) - (a : Int) < 3 + (p : Int) + (d : Int)) = false := decide_eq_false (by omega)
  have hT := ResAt.new w #[.int .i64 0, .int .i64 0, .bool false, .bool false] 45
  go_enter Tryz.func56, Tryz.ntmps56
  go_wp2_with fail
  refine HL.mono ?_
  rintro e x ⟨rfl, rfl⟩
  go_wp2_with fail
  refine (HS _).mono ?_
  rintro e x ⟨rfl, hb⟩
  replace hT := hT.keep hb
  clear hb
  obtain ⟨⟨c0, c1, c2, c3⟩, f0, f1, f2, f3, l1⟩ := hT.facts4
  go_wp2_with fail
  replace hT := (((hT.set 0 (.int .i64 p)).set 1 (.int .i64 d)).set 2 (.bool wk)).set 3 (.bool fn)
  clear c0 c1 c2 c3 f0 f1 f2 f3 l1
  refine (HZ _).mono ?_
  rintro e y ⟨rfl, hb⟩
  replace hT := hT.keep hb
  clear hb HL HS HZ
  have HE := len_any _ (h.below hT.below hlt.1 hlt.2)
  obtain ⟨⟨c0, c1, c2, c3⟩, f0, f1, f2, f3, l1⟩ := hT.facts4
  go_wp2_with fail
  refine HE.mono ?_
  rintro e y ⟨rfl, rfl⟩
  clear HE
  go_wp2
  replace hT := (((hT.set 0 (.int .i64 p)).set 1 (.int .i64 d)).set 2 (.bool wk)).set 3 (.bool fn)
  obtain ⟨⟨e0, e1, e2, e3⟩, _⟩ := hT.facts4
  refine bodyPost_ret (v := .tuple #[shV p d wk fn, .bool fr, .int .i64 0]) ?_ rfl ⟨rfl, hT.below⟩
  simp [results, Tryz.f56, go_sem, e0, e1, e2, e3]

/-- What a picked word is: so a closure tells, behind w. -/
def Picks (k q : Nat) (p d : Nat) (wk fn : Bool) (n : Nat) (ok : Bool) (w : World) : Prop :=
  (k = 126 ∨ k = 127 ∨ k = 128) ∧
  ∀ x, Below w.heap.size w x → Calls Tryz.prog k #[shV p d wk fn, .pointer (some ⟨q, 0, none⟩)] x fun e y => ∃ z : Int, e = .returned (.tuple #[.int .i64 z, .bool ok]) ∧ (ok = true → z = n) ∧ Below x.heap.size x y
theorem Picks.later {k q n : Nat} {ok : Bool} {w x : World} (h : Picks k q p d wk fn n ok w) (hb : Below w.heap.size w x) : Picks k q p d wk fn n ok x :=
  ⟨h.1, fun y hy => h.2 y (hb.trans (hy.mono hb.size))⟩

set_option maxHeartbeats 1000000 in
theorem find_yes (a n k q : Nat) (w : World) (h : ArenaAt 146 w P b l) (o : ObjIs l a p d wk fn fr) (hk : Picks k q p d wk fn n true w) (hn : n < 3 + p + d) :
    Calls Tryz.prog 125 #[.pointer (some ⟨P, 0, none⟩), .int .i64 a, .func (.func k) #[] #[.pointer (some ⟨q, 0, none⟩)]] w fun e w' => e = .returned (.tuple #[.int .i64 (a + n : Nat), .int .i64 0]) ∧ Below w.heap.size w w' := by
  have HS := shape_at a w h o
  have hl := h.len
  have hr := o.room
  have i1 : IntKind.i64.wrap ((a : Int) + (n : Int)) = ((a + n : Nat) : Int) := by rw [IntWalk.i64_in _ (by omega)]; omega
  obtain ⟨hk, hK⟩ := hk
  clear h o
  rcases hk with rfl | rfl | rfl
  all_goals
    go_enter Tryz.func125, Tryz.ntmps125
    go_wp2_with fail
    refine HS.mono ?_
    rintro e x ⟨rfl, hb⟩
    go_wp2_with fail
    have hB := hb.alloc hb.size (.cells #[.int .i64 p, .int .i64 d, .bool wk, .bool fn] 45)
    refine (hK _ hB).mono ?_
    rintro e y ⟨z, rfl, hz, hb2⟩
    obtain rfl := hz (by trivial)
    go_wp2
    go_ret2
    exact ⟨rfl, hB.trans (hb2.mono hB.size)⟩

set_option maxHeartbeats 1000000 in
theorem find_no (a k q z : Nat) (w : World) (h : ArenaAt 146 w P b l) (o : ObjIs l a p d wk fn fr) (hk : Picks k q p d wk fn z false w) :
    Calls Tryz.prog 125 #[.pointer (some ⟨P, 0, none⟩), .int .i64 a, .func (.func k) #[] #[.pointer (some ⟨q, 0, none⟩)]] w fun e w' => e = .returned (.tuple #[.int .i64 0, .int .i64 71]) ∧ Below w.heap.size w w' := by
  have HS := shape_at a w h o
  obtain ⟨hk, hK⟩ := hk
  clear h o
  rcases hk with rfl | rfl | rfl
  all_goals
    go_enter Tryz.func125, Tryz.ntmps125
    go_wp2_with fail
    refine HS.mono ?_
    rintro e x ⟨rfl, hb⟩
    go_wp2_with fail
    have hB := hb.alloc hb.size (.cells #[.int .i64 p, .int .i64 d, .bool wk, .bool fn] 45)
    refine (hK _ hB).mono ?_
    rintro e y ⟨z, rfl, -, hb2⟩
    go_wp2
    go_ret2
    exact ⟨rfl, hB.trans (hb2.mono hB.size)⟩

theorem obj_load (a n k q : Nat) (w : World) (h : ArenaAt 146 w P b l) (o : ObjIs l a p d wk fn fr) (hk : Picks k q p d wk fn n true w) (hn : n < 3 + p + d) :
    Calls Tryz.prog 103 #[.pointer (some ⟨P, 0, none⟩), .int .i64 a, .func (.func k) #[] #[.pointer (some ⟨q, 0, none⟩)]] w fun e w' => e = .returned (.tuple #[.int .u64 (l.getD (a + n) 0), .int .i64 0]) ∧ Below w.heap.size w w' := by
  have HF := find_yes a n k q w h o hk hn
  have hlt := h.lt
  have HL := fun x (hb : Below w.heap.size w x) => load_there (a + n) x (h.below hb hlt.1 hlt.2) (by have := o.room; omega)
  generalize l.getD (a + n) 0 = v at *
  clear h o hk
  go_enter Tryz.func103, Tryz.ntmps103
  go_wp2_with fail
  refine HF.mono ?_
  rintro e x ⟨rfl, hb⟩
  go_wp2_with fail
  refine (HL x hb).mono ?_
  rintro e x ⟨rfl, rfl⟩
  go_wp2
  go_ret2
  exact ⟨rfl, hb⟩

theorem obj_load_no (a k q z : Nat) (w : World) (h : ArenaAt 146 w P b l) (o : ObjIs l a p d wk fn fr) (hk : Picks k q p d wk fn z false w) :
    Calls Tryz.prog 103 #[.pointer (some ⟨P, 0, none⟩), .int .i64 a, .func (.func k) #[] #[.pointer (some ⟨q, 0, none⟩)]] w fun e w' => e = .returned (.tuple #[.int .u64 0, .int .i64 71]) ∧ Below w.heap.size w w' := by
  have HF := find_no a k q z w h o hk
  clear h o hk
  go_enter Tryz.func103, Tryz.ntmps103
  go_wp2_with fail
  refine HF.mono ?_
  rintro e x ⟨rfl, hb⟩
  go_wp2
  go_ret2
  exact ⟨rfl, hb⟩

/-- What a word is made: so a closure tells, behind w. -/
def Makes (k q : Nat) (u v : Int) (w : World) : Prop :=
  (k = 107 ∨ k = 129 ∨ k = 112) ∧
  ∀ x, Below w.heap.size w x → Calls Tryz.prog k #[.int .u64 u, .pointer (some ⟨q, 0, none⟩)] x fun e y => e = .returned (.tuple #[.int .u64 v, .int .i64 0]) ∧ Below x.heap.size x y
theorem Makes.later {k q : Nat} {u v : Int} {w x : World} (h : Makes k q u v w) (hb : Below w.heap.size w x) : Makes k q u v x :=
  ⟨h.1, fun y hy => h.2 y (hb.trans (hy.mono hb.size))⟩

set_option maxHeartbeats 1000000 in
theorem change_yes (a n k q m r : Nat) (v : Int) (w : World) (h : ArenaAt 146 w P b l) (o : ObjIs l a p d wk fn fr) (hk : Picks k q p d wk fn n true w) (hn : n < 3 + p + d) (hm : Makes m r (l.getD (a + n) 0) v w) (hv : 0 ≤ v ∧ v ≤ 18446744073709551615) :
    Calls Tryz.prog 106 #[.pointer (some ⟨P, 0, none⟩), .int .i64 a, .func (.func k) #[] #[.pointer (some ⟨q, 0, none⟩)], .func (.func m) #[] #[.pointer (some ⟨r, 0, none⟩)]] w fun e w' => e = .returned (.int .i64 0) ∧ ArenaAt 146 w' P b (l.set (a + n) v) ∧ Chg (· = b) w w' := by
  have HF := find_yes a n k q w h o hk hn
  have hlt := h.lt
  have hin : a + n < l.length := by have := o.room; omega
  have HL := fun x (hb : Below w.heap.size w x) => load_there (a + n) x (h.below hb hlt.1 hlt.2) hin
  have HS := fun x (hb : Below w.heap.size w x) => store_there (a + n) v x (h.below hb hlt.1 hlt.2) hin hv
  obtain ⟨hm, hM⟩ := hm
  generalize l.getD (a + n) 0 = u at *
  clear h o hk hn hv
  rcases hm with rfl | rfl | rfl
  all_goals
    go_enter Tryz.func106, Tryz.ntmps106
    go_wp2_with fail
    refine HF.mono ?_
    rintro e x ⟨rfl, hb⟩
    go_wp2_with fail
    refine (HL x hb).mono ?_
    rintro e x ⟨rfl, rfl⟩
    go_wp2_with fail
    refine (hM _ hb).mono ?_
    rintro e y ⟨rfl, hb2⟩
    replace hb2 := hb.trans (hb2.mono hb.size)
    go_wp2_with fail
    refine (HS _ hb2).mono ?_
    rintro e z ⟨rfl, ha, hc⟩
    go_wp2
    go_ret
    exact ⟨rfl, ha, (Chg.of_below hb2 (Nat.le_refl _)).trans hc⟩

theorem change_no (a k q m r z : Nat) (w : World) (h : ArenaAt 146 w P b l) (o : ObjIs l a p d wk fn fr) (hk : Picks k q p d wk fn z false w) :
    Calls Tryz.prog 106 #[.pointer (some ⟨P, 0, none⟩), .int .i64 a, .func (.func k) #[] #[.pointer (some ⟨q, 0, none⟩)], .func (.func m) #[] #[.pointer (some ⟨r, 0, none⟩)]] w fun e w' => e = .returned (.int .i64 71) ∧ Below w.heap.size w w' := by
  have HF := find_no a k q z w h o hk
  clear h o hk
  go_enter Tryz.func106, Tryz.ntmps106
  go_wp2_with fail
  refine HF.mono ?_
  rintro e x ⟨rfl, hb⟩
  go_wp2
  go_ret
  exact ⟨rfl, hb⟩

end

/-! ### The closures -/
theorem drewN_below {B : Nat} {a w : World} (h : Below B a w) (n : Nat) : Below B a (w.drewN n) := ⟨h.os, h.tape, h.output, h.size, h.block⟩
section
variable (p d : Nat) (wk fn : Bool) (q : Nat) (x : World)
theorem ahead_in (n : Int) (hc : x.cell? ⟨q, 0, none⟩ = some (.int .i64 n)) (hq : q < x.heap.size) :
    Calls Tryz.prog 126 #[shV p d wk fn, .pointer (some ⟨q, 0, none⟩)] x fun e y => e = .returned (.tuple #[.int .i64 n, .bool true]) ∧ Below x.heap.size x y := by
  go_enter Tryz.func126, Tryz.ntmps126
  go_wp2
  go_ret2
  exact ⟨rfl, (Below.refl _ x).alloc (Nat.le_refl _) _⟩
theorem ptr_in (i : Int) (i0 : -9223372036854775808 ≤ i) (i1 : i ≤ 9223372036854775807) (hp : p ≤ 8) (hc : x.cell? ⟨q, 0, none⟩ = some (.int .i64 i)) (hq : q < x.heap.size) :
    Calls Tryz.prog 127 #[shV p d wk fn, .pointer (some ⟨q, 0, none⟩)] x fun e y => ∃ z : Int, e = .returned (.tuple #[.int .i64 z, .bool (decide (0 ≤ i ∧ i < p))]) ∧ (decide (0 ≤ i ∧ i < p) = true → z = (3 + i.toNat : Nat)) ∧ Below x.heap.size x y := by
  by_cases h1 : 0 ≤ i
  · have g1 : decide (0 ≤ i) = true := decide_eq_true h1
    by_cases h2 : i < p
    · have g2 : decide (i < (p : Int)) = true := decide_eq_true h2
      have g3 : IntKind.i64.wrap (3 + i) = 3 + i := IntWalk.i64_in _ (by omega)
      rw [decide_eq_true (show 0 ≤ i ∧ i < p from ⟨h1, h2⟩)]
      go_enter Tryz.func127, Tryz.ntmps127
      go_wp2
      go_quiet (fail)
      go_wp2
      go_ret2
      exact ⟨_, rfl, fun _ => by omega, drewN_below ((Below.refl _ x).alloc (Nat.le_refl _) _) _⟩
    · have g2 : decide (i < (p : Int)) = false := decide_eq_false h2
      rw [decide_eq_false (show ¬ (0 ≤ i ∧ i < p) from fun h => h2 h.2)]
      go_enter Tryz.func127, Tryz.ntmps127
      go_wp2
      go_quiet (fail)
      go_wp2
      go_ret2
      exact ⟨_, rfl, by simp, drewN_below ((Below.refl _ x).alloc (Nat.le_refl _) _) _⟩
  · have g1 : decide (0 ≤ i) = false := decide_eq_false h1
    rw [decide_eq_false (show ¬ (0 ≤ i ∧ i < p) from fun h => h1 h.1)]
    go_enter Tryz.func127, Tryz.ntmps127
    go_wp2
    go_quiet (fail)
    go_wp2
    go_ret2
    exact ⟨_, rfl, by simp, drewN_below ((Below.refl _ x).alloc (Nat.le_refl _) _) _⟩
theorem num_in (i : Int) (i0 : -9223372036854775808 ≤ i) (i1 : i ≤ 9223372036854775807) (hp : p ≤ 8) (hd : d ≤ 8) (hc : x.cell? ⟨q, 0, none⟩ = some (.int .i64 i)) (hq : q < x.heap.size) :
    Calls Tryz.prog 128 #[shV p d wk fn, .pointer (some ⟨q, 0, none⟩)] x fun e y => ∃ z : Int, e = .returned (.tuple #[.int .i64 z, .bool (decide (0 ≤ i ∧ i < d))]) ∧ (decide (0 ≤ i ∧ i < d) = true → z = (3 + p + i.toNat : Nat)) ∧ Below x.heap.size x y := by
  have g0 : IntKind.i64.wrap (3 + (p : Int)) = 3 + (p : Int) := IntWalk.i64_in _ (by omega)
  by_cases h1 : 0 ≤ i
  · have g1 : decide (0 ≤ i) = true := decide_eq_true h1
    by_cases h2 : i < d
    · have g2 : decide (i < (d : Int)) = true := decide_eq_true h2
      have g3 : IntKind.i64.wrap (3 + (p : Int) + i) = 3 + (p : Int) + i := IntWalk.i64_in _ (by omega)
      rw [decide_eq_true (show 0 ≤ i ∧ i < d from ⟨h1, h2⟩)]
      go_enter Tryz.func128, Tryz.ntmps128
      go_wp2
      go_quiet (fail)
      go_wp2
      go_ret2
      exact ⟨_, rfl, fun _ => by omega, drewN_below ((Below.refl _ x).alloc (Nat.le_refl _) _) _⟩
    · have g2 : decide (i < (d : Int)) = false := decide_eq_false h2
      rw [decide_eq_false (show ¬ (0 ≤ i ∧ i < d) from fun h => h2 h.2)]
      go_enter Tryz.func128, Tryz.ntmps128
      go_wp2
      go_quiet (fail)
      go_wp2
      go_ret2
      exact ⟨_, rfl, by simp, drewN_below ((Below.refl _ x).alloc (Nat.le_refl _) _) _⟩
  · have g1 : decide (0 ≤ i) = false := decide_eq_false h1
    rw [decide_eq_false (show ¬ (0 ≤ i ∧ i < d) from fun h => h1 h.1)]
    go_enter Tryz.func128, Tryz.ntmps128
    go_wp2
    go_quiet (fail)
    go_wp2
    go_ret2
    exact ⟨_, rfl, by simp, drewN_below ((Below.refl _ x).alloc (Nat.le_refl _) _) _⟩
theorem become_in (u v : Int) (hc : x.cell? ⟨q, 0, none⟩ = some (.int .u64 v)) (hq : q < x.heap.size) :
    Calls Tryz.prog 129 #[.int .u64 u, .pointer (some ⟨q, 0, none⟩)] x fun e y => e = .returned (.tuple #[.int .u64 v, .int .i64 0]) ∧ Below x.heap.size x y := by
  go_enter Tryz.func129, Tryz.ntmps129
  go_wp2
  go_ret2
  exact ⟨rfl, Below.refl _ x⟩
theorem setPtr_in (u : Int) (v : Nat) (hv : v ≤ 131072) (hc : x.cell? ⟨q, 0, none⟩ = some (.int .i64 v)) (hq : q < x.heap.size) :
    Calls Tryz.prog 107 #[.int .u64 u, .pointer (some ⟨q, 0, none⟩)] x fun e y => e = .returned (.tuple #[.int .u64 v, .int .i64 0]) ∧ Below x.heap.size x y := by
  have g1 : decide ((v : Int) < 0) = false := decide_eq_false (by omega)
  have g2 : decide ((131072 : Int) < (v : Int)) = false := decide_eq_false (by omega)
  have g3 : IntKind.u64.wrap (v : Int) = (v : Int) := by rw [IntKind.wrap_u64]; omega
  go_enter Tryz.func107, Tryz.ntmps107
  go_wp2
  go_ret2
  exact ⟨rfl, Below.refl _ x⟩
set_option maxHeartbeats 1000000 in
theorem setFreed_in {p d : Nat} {wk fn fr : Bool} (tf : Bool) (h : shB p d wk fn = true) (hp : p ≤ 8) (hd : d ≤ 8) (hc : x.cell? ⟨q, 0, none⟩ = some (.bool tf)) (hq : q < x.heap.size) :
    Calls Tryz.prog 112 #[.int .u64 (headN p d wk fn fr : Nat), .pointer (some ⟨q, 0, none⟩)] x fun e y => e = .returned (.tuple #[.int .u64 (headN p d wk fn tf : Nat), .int .i64 0]) ∧ Below x.heap.size x y := by
  have HS := shape_head (fr := fr) h hp hd
  have HH := head_yes p d wk fn tf h hp hd
  generalize headN p d wk fn fr = u at *
  generalize headN p d wk fn tf = v at *
  go_enter Tryz.func112, Tryz.ntmps112
  go_wp2_with fail
  refine (HS _).mono ?_
  rintro e y ⟨rfl, hb⟩
  have hc1 := (hb.cell (p := ⟨q, 0, none⟩) hq).trans hc
  have hq1 := Nat.lt_of_lt_of_le hq hb.size
  clear hc hq
  go_wp2_with fail
  refine (HH _).mono ?_
  rintro e z ⟨rfl, hb2⟩
  have hB := hb.alloc hb.size (.cells #[.int .i64 p, .int .i64 d, .bool wk, .bool fn] 45)
  go_wp2
  go_ret2
  exact ⟨rfl, hB.trans (hb2.mono hB.size)⟩
end

end Go.Proofs.YtbjmeibcphmgbaaGreat

namespace Go.Proofs.YtbjmeibcphmgbaaGreat
open Go.ChangeShapes Go.WideShapes Go.ChangeAt Go.RowKit

set_option linter.unusedSimpArgs false
set_option linter.unusedVariables false

/-! ### What makes the closures -/
theorem ahead_any (n : Int) (w : World) : Calls Tryz.prog 104 #[.int .i64 n] w fun e w' => ∃ q, e = .returned (.func (.func 126) #[] #[.pointer (some ⟨q, 0, none⟩)]) ∧ w'.cell? ⟨q, 0, none⟩ = some (.int .i64 n) ∧ q < w'.heap.size ∧ Below w.heap.size w w' := by
  go_enter Tryz.func104, Tryz.ntmps104
  go_wp2
  go_ret
  exact ⟨_, rfl, by simp, by simp, (Below.refl _ w).alloc (Nat.le_refl _) _⟩
theorem ptr_any (n : Int) (w : World) : Calls Tryz.prog 105 #[.int .i64 n] w fun e w' => ∃ q, e = .returned (.func (.func 127) #[] #[.pointer (some ⟨q, 0, none⟩)]) ∧ w'.cell? ⟨q, 0, none⟩ = some (.int .i64 n) ∧ q < w'.heap.size ∧ Below w.heap.size w w' := by
  go_enter Tryz.func105, Tryz.ntmps105
  go_wp2
  go_ret
  exact ⟨_, rfl, by simp, by simp, (Below.refl _ w).alloc (Nat.le_refl _) _⟩
theorem num_any (n : Int) (w : World) : Calls Tryz.prog 108 #[.int .i64 n] w fun e w' => ∃ q, e = .returned (.func (.func 128) #[] #[.pointer (some ⟨q, 0, none⟩)]) ∧ w'.cell? ⟨q, 0, none⟩ = some (.int .i64 n) ∧ q < w'.heap.size ∧ Below w.heap.size w w' := by
  go_enter Tryz.func108, Tryz.ntmps108
  go_wp2
  go_ret
  exact ⟨_, rfl, by simp, by simp, (Below.refl _ w).alloc (Nat.le_refl _) _⟩
theorem become_any (n : Int) (w : World) : Calls Tryz.prog 110 #[.int .u64 n] w fun e w' => ∃ q, e = .returned (.func (.func 129) #[] #[.pointer (some ⟨q, 0, none⟩)]) ∧ w'.cell? ⟨q, 0, none⟩ = some (.int .u64 n) ∧ q < w'.heap.size ∧ Below w.heap.size w w' := by
  go_enter Tryz.func110, Tryz.ntmps110
  go_wp2
  go_ret
  exact ⟨_, rfl, by simp, by simp, (Below.refl _ w).alloc (Nat.le_refl _) _⟩

section
variable {p d : Nat} {wk fn : Bool} {q : Nat} {x : World}
theorem ahead_picks (p d : Nat) (wk fn : Bool) (n : Nat) (hc : x.cell? ⟨q, 0, none⟩ = some (.int .i64 n)) (hq : q < x.heap.size) : Picks 126 q p d wk fn n true x :=
  ⟨.inl rfl, fun y hy => (ahead_in p d wk fn q y n ((hy.cell (p := ⟨q, 0, none⟩) hq).trans hc) (Nat.lt_of_lt_of_le hq hy.size)).mono fun e z ⟨h, hb⟩ => ⟨_, h, fun _ => rfl, hb⟩⟩
theorem ptr_picks (i : Int) (i0 : -9223372036854775808 ≤ i) (i1 : i ≤ 9223372036854775807) (wk fn : Bool) (hp : p ≤ 8) (hd : d ≤ 8) (hc : x.cell? ⟨q, 0, none⟩ = some (.int .i64 i)) (hq : q < x.heap.size) :
    Picks 127 q p d wk fn (3 + i.toNat) (decide (0 ≤ i ∧ i < p)) x :=
  ⟨.inr (.inl rfl), fun y hy => ptr_in p d wk fn q y i i0 i1 hp ((hy.cell (p := ⟨q, 0, none⟩) hq).trans hc) (Nat.lt_of_lt_of_le hq hy.size)⟩
theorem num_picks (i : Int) (i0 : -9223372036854775808 ≤ i) (i1 : i ≤ 9223372036854775807) (wk fn : Bool) (hp : p ≤ 8) (hd : d ≤ 8) (hc : x.cell? ⟨q, 0, none⟩ = some (.int .i64 i)) (hq : q < x.heap.size) :
    Picks 128 q p d wk fn (3 + p + i.toNat) (decide (0 ≤ i ∧ i < d)) x :=
  ⟨.inr (.inr rfl), fun y hy => num_in p d wk fn q y i i0 i1 hp hd ((hy.cell (p := ⟨q, 0, none⟩) hq).trans hc) (Nat.lt_of_lt_of_le hq hy.size)⟩
theorem become_makes (u v : Int) (hc : x.cell? ⟨q, 0, none⟩ = some (.int .u64 v)) (hq : q < x.heap.size) : Makes 129 q u v x :=
  ⟨.inr (.inl rfl), fun y hy => become_in q y u v ((hy.cell (p := ⟨q, 0, none⟩) hq).trans hc) (Nat.lt_of_lt_of_le hq hy.size)⟩
theorem setPtr_makes (u : Int) (v : Nat) (hv : v ≤ 131072) (hc : x.cell? ⟨q, 0, none⟩ = some (.int .i64 v)) (hq : q < x.heap.size) : Makes 107 q u v x :=
  ⟨.inl rfl, fun y hy => setPtr_in q y u v hv ((hy.cell (p := ⟨q, 0, none⟩) hq).trans hc) (Nat.lt_of_lt_of_le hq hy.size)⟩
theorem setFreed_makes {fr : Bool} (tf : Bool) (h : shB p d wk fn = true) (hp : p ≤ 8) (hd : d ≤ 8) (hc : x.cell? ⟨q, 0, none⟩ = some (.bool tf)) (hq : q < x.heap.size) :
    Makes 112 q (headN p d wk fn fr : Nat) (headN p d wk fn tf : Nat) x :=
  ⟨.inr (.inr rfl), fun y hy => setFreed_in q y tf h hp hd ((hy.cell (p := ⟨q, 0, none⟩) hq).trans hc) (Nat.lt_of_lt_of_le hq hy.size)⟩
end

theorem zigOf_bounds {n : Int} (h0 : -9223372036854775808 ≤ n) (h1 : n ≤ 9223372036854775807) : 0 ≤ zigOf n ∧ zigOf n ≤ 18446744073709551615 := by
  unfold zigOf; split <;> omega
theorem zag_zigOf (n : Int) : zagOf (zigOf n) = n := by
  unfold zigOf
  split
  · unfold zagOf; split <;> omega
  · unfold zagOf; split <;> omega

section
variable {P b : Nat} {l : List Int} {p d : Nat} {wk fn fr : Bool}

/-! ### What is told -/

theorem serial_at (a : Nat) (w : World) (h : ArenaAt 146 w P b l) (o : ObjIs l a p d wk fn fr) (hs : 0 ≤ l.getD (a + 2) 0 ∧ l.getD (a + 2) 0 ≤ 9223372036854775807) :
    Calls Tryz.prog 70 #[.pointer (some ⟨P, 0, none⟩), .int .i64 a] w fun e w' => e = .returned (.tuple #[.int .i64 (l.getD (a + 2) 0), .int .i64 0]) ∧ Below w.heap.size w w' := by
  have hlt := h.lt
  obtain ⟨v, hX⟩ : ∃ x, l.getD (a + 2) 0 = x := ⟨_, rfl⟩
  rw [hX] at hs ⊢
  have g : IntKind.i64.wrap v = v := IntWalk.i64_in _ (by omega)
  go_enter Tryz.func70, Tryz.ntmps70
  go_wp2_with fail
  refine (ahead_any 2 _).mono ?_
  rintro e x ⟨q, rfl, hc, hq, hb⟩
  have HL := obj_load a 2 _ q x (h.below hb hlt.1 hlt.2) o (ahead_picks p d wk fn 2 hc hq) (by omega)
  rw [hX] at HL
  clear hX
  clear h o hc
  go_wp2_with fail
  refine HL.mono ?_
  rintro e y ⟨rfl, hb2⟩
  go_wp2
  go_ret2
  exact ⟨rfl, hb.trans (hb2.mono hb.size)⟩

theorem ptr_at (a i : Nat) (w : World) (h : ArenaAt 146 w P b l) (o : ObjIs l a p d wk fn fr) (hi : i < p) (hs : 0 ≤ l.getD (a + (3 + i)) 0 ∧ l.getD (a + (3 + i)) 0 ≤ 9223372036854775807) :
    Calls Tryz.prog 71 #[.pointer (some ⟨P, 0, none⟩), .int .i64 a, .int .i64 i] w fun e w' => e = .returned (.tuple #[.int .i64 (l.getD (a + (3 + i)) 0), .int .i64 0]) ∧ Below w.heap.size w w' := by
  have hlt := h.lt
  obtain ⟨v, hX⟩ : ∃ x, l.getD (a + (3 + i)) 0 = x := ⟨_, rfl⟩
  rw [hX] at hs ⊢
  have g : IntKind.i64.wrap v = v := IntWalk.i64_in _ (by omega)
  go_enter Tryz.func71, Tryz.ntmps71
  go_wp2_with fail
  refine (ptr_any i _).mono ?_
  rintro e x ⟨q, rfl, hc, hq, hb⟩
  have hk := ptr_picks (i : Int) (by have := o.ptrs; omega) (by have := o.ptrs; omega) wk fn o.ptrs o.data hc hq
  rw [decide_eq_true (by omega : 0 ≤ (i : Int) ∧ (i : Int) < p), Int.toNat_natCast] at hk
  have HL := obj_load a (3 + i) _ q x (h.below hb hlt.1 hlt.2) o hk (by omega)
  rw [hX] at HL
  clear hX
  clear h o hc hk
  go_wp2_with fail
  refine HL.mono ?_
  rintro e y ⟨rfl, hb2⟩
  go_wp2
  go_ret2
  exact ⟨rfl, hb.trans (hb2.mono hb.size)⟩

theorem ptr_no (a : Nat) (i : Int) (w : World) (h : ArenaAt 146 w P b l) (o : ObjIs l a p d wk fn fr) (i0 : -9223372036854775808 ≤ i) (i1 : i ≤ 9223372036854775807) (hi : ¬ (0 ≤ i ∧ i < p)) :
    Calls Tryz.prog 71 #[.pointer (some ⟨P, 0, none⟩), .int .i64 a, .int .i64 i] w fun e w' => e = .returned (.tuple #[.int .i64 0, .int .i64 71]) ∧ Below w.heap.size w w' := by
  have hlt := h.lt
  go_enter Tryz.func71, Tryz.ntmps71
  go_wp2_with fail
  refine (ptr_any i _).mono ?_
  rintro e x ⟨q, rfl, hc, hq, hb⟩
  have hk := ptr_picks i i0 i1 wk fn o.ptrs o.data hc hq
  rw [decide_eq_false hi] at hk
  have HL := obj_load_no a _ q _ x (h.below hb hlt.1 hlt.2) o hk
  clear h o hc hk
  go_wp2_with fail
  refine HL.mono ?_
  rintro e y ⟨rfl, hb2⟩
  go_wp2
  go_ret2
  exact ⟨rfl, hb.trans (hb2.mono hb.size)⟩

theorem num_at (a i : Nat) (n : Int) (w : World) (h : ArenaAt 146 w P b l) (o : ObjIs l a p d wk fn fr) (hi : i < d) (n0 : -9223372036854775808 ≤ n) (n1 : n ≤ 9223372036854775807) (hn : l.getD (a + (3 + p + i)) 0 = zigOf n) :
    Calls Tryz.prog 73 #[.pointer (some ⟨P, 0, none⟩), .int .i64 a, .int .i64 i] w fun e w' => e = .returned (.tuple #[.int .i64 n, .int .i64 0]) ∧ Below w.heap.size w w' := by
  have hlt := h.lt
  have hz := zigOf_bounds n0 n1
  have HZ := fun w => zag_any (zigOf n) w hz.1 hz.2
  rw [zag_zigOf] at HZ
  go_enter Tryz.func73, Tryz.ntmps73
  go_wp2_with fail
  refine (num_any i _).mono ?_
  rintro e x ⟨q, rfl, hc, hq, hb⟩
  have hk := num_picks (i : Int) (by have := o.data; omega) (by have := o.data; omega) wk fn o.ptrs o.data hc hq
  rw [decide_eq_true (by omega : 0 ≤ (i : Int) ∧ (i : Int) < d), Int.toNat_natCast] at hk
  have HL := obj_load a (3 + p + i) _ q x (h.below hb hlt.1 hlt.2) o hk (by omega)
  rw [hn] at HL
  generalize zigOf n = v at *
  clear h o hc hk hn
  go_wp2_with fail
  refine HL.mono ?_
  rintro e y ⟨rfl, hb2⟩
  go_wp2_with fail
  refine (HZ _).mono ?_
  rintro e y ⟨rfl, rfl⟩
  go_wp2
  go_ret2
  exact ⟨rfl, hb.trans (hb2.mono hb.size)⟩


/-! ### What is set -/
theorem setPtr_at (a i v : Nat) (w : World) (h : ArenaAt 146 w P b l) (o : ObjIs l a p d wk fn fr) (hi : i < p) (hv : v ≤ 131072) :
    Calls Tryz.prog 72 #[.pointer (some ⟨P, 0, none⟩), .int .i64 a, .int .i64 i, .int .i64 v] w fun e w' => e = .returned (.int .i64 0) ∧ ArenaAt 146 w' P b (l.set (a + (3 + i)) v) ∧ Chg (· = b) w w' := by
  have hlt := h.lt
  obtain ⟨l', hX⟩ : ∃ x, l.set (a + (3 + i)) (v : Int) = x := ⟨_, rfl⟩
  rw [hX]
  go_enter Tryz.func72, Tryz.ntmps72
  go_wp2_with fail
  have hV : (w.alloc (.cells #[.int .i64 v] 3)).cell? ⟨w.heap.size, 0, none⟩ = some (.int .i64 v) := by simp
  have hB := (Below.refl _ w).alloc (Nat.le_refl _) (.cells #[.int .i64 v] 3)
  have hQ : w.heap.size < (w.alloc (.cells #[.int .i64 v] 3)).heap.size := by simp
  refine (ptr_any i _).mono ?_
  rintro e x ⟨q, rfl, hc, hq, hb⟩
  replace hV := (hb.cell (p := ⟨_, 0, none⟩) hQ).trans hV
  replace hQ := Nat.lt_of_lt_of_le hQ hb.size
  replace hB := hB.trans (hb.mono hB.size)
  have hk := ptr_picks (i : Int) (by have := o.ptrs; omega) (by have := o.ptrs; omega) wk fn o.ptrs o.data hc hq
  rw [decide_eq_true (by omega : 0 ≤ (i : Int) ∧ (i : Int) < p), Int.toNat_natCast] at hk
  have HL := change_yes a (3 + i) _ q _ _ v x (h.below hB hlt.1 hlt.2) o hk (by omega) (setPtr_makes _ v hv hV hQ) (by omega)
  rw [hX] at HL
  clear hX
  clear h o hc hk hV hb
  go_wp2_with fail
  refine HL.mono ?_
  rintro e y ⟨rfl, ha, hc⟩
  go_wp2
  go_ret
  exact ⟨rfl, ha, (Chg.of_below hB (Nat.le_refl _)).trans hc⟩

theorem setPtr_no (a : Nat) (i v : Int) (w : World) (h : ArenaAt 146 w P b l) (o : ObjIs l a p d wk fn fr) (i0 : -9223372036854775808 ≤ i) (i1 : i ≤ 9223372036854775807) (hi : ¬ (0 ≤ i ∧ i < p)) :
    Calls Tryz.prog 72 #[.pointer (some ⟨P, 0, none⟩), .int .i64 a, .int .i64 i, .int .i64 v] w fun e w' => e = .returned (.int .i64 71) ∧ Below w.heap.size w w' := by
  have hlt := h.lt
  go_enter Tryz.func72, Tryz.ntmps72
  go_wp2_with fail
  have hB := (Below.refl _ w).alloc (Nat.le_refl _) (.cells #[.int .i64 v] 3)
  refine (ptr_any i _).mono ?_
  rintro e x ⟨q, rfl, hc, hq, hb⟩
  replace hB := hB.trans (hb.mono hB.size)
  have hk := ptr_picks i i0 i1 wk fn o.ptrs o.data hc hq
  rw [decide_eq_false hi] at hk
  have HL := fun m r => change_no a _ q m r _ x (h.below hB hlt.1 hlt.2) o hk
  clear h o hc hk hb
  go_wp2_with fail
  refine (HL _ _).mono ?_
  rintro e y ⟨rfl, hb2⟩
  go_wp2
  go_ret
  exact ⟨rfl, hB.trans (hb2.mono hB.size)⟩

theorem setNum_at (a i : Nat) (n : Int) (w : World) (h : ArenaAt 146 w P b l) (o : ObjIs l a p d wk fn fr) (hi : i < d) (n0 : -9223372036854775808 ≤ n) (n1 : n ≤ 9223372036854775807) :
    Calls Tryz.prog 74 #[.pointer (some ⟨P, 0, none⟩), .int .i64 a, .int .i64 i, .int .i64 n] w fun e w' => e = .returned (.int .i64 0) ∧ ArenaAt 146 w' P b (l.set (a + (3 + p + i)) (zigOf n)) ∧ Chg (· = b) w w' := by
  have hlt := h.lt
  have hz := zigOf_bounds n0 n1
  have HZ := fun w => zig_any n w n0 n1
  generalize zigOf n = u at *
  obtain ⟨l', hX⟩ : ∃ x, l.set (a + (3 + p + i)) u = x := ⟨_, rfl⟩
  rw [hX]
  go_enter Tryz.func74, Tryz.ntmps74
  go_wp2_with fail
  refine (num_any i _).mono ?_
  rintro e x ⟨q, rfl, hc, hq, hB⟩
  have hk := num_picks (i : Int) (by have := o.data; omega) (by have := o.data; omega) wk fn o.ptrs o.data hc hq
  rw [decide_eq_true (by omega : 0 ≤ (i : Int) ∧ (i : Int) < d), Int.toNat_natCast] at hk
  clear hc
  go_wp2_with fail
  refine (HZ _).mono ?_
  rintro e x ⟨rfl, rfl⟩
  go_wp2_with fail
  refine (become_any u _).mono ?_
  rintro e y ⟨r, rfl, hc, hr, hb⟩
  replace hB := hB.trans (hb.mono hB.size)
  have HL := change_yes a (3 + p + i) _ q _ r u y (h.below hB hlt.1 hlt.2) o (hk.later hb) (by omega) (become_makes _ u hc hr) hz
  rw [hX] at HL
  clear hX
  clear h o hc hk hb
  go_wp2_with fail
  refine HL.mono ?_
  rintro e y ⟨rfl, ha, hc⟩
  go_wp2
  go_ret
  exact ⟨rfl, ha, (Chg.of_below hB (Nat.le_refl _)).trans hc⟩

theorem setNum_no (a : Nat) (i n : Int) (w : World) (h : ArenaAt 146 w P b l) (o : ObjIs l a p d wk fn fr) (i0 : -9223372036854775808 ≤ i) (i1 : i ≤ 9223372036854775807) (hi : ¬ (0 ≤ i ∧ i < d)) (n0 : -9223372036854775808 ≤ n) (n1 : n ≤ 9223372036854775807) :
    Calls Tryz.prog 74 #[.pointer (some ⟨P, 0, none⟩), .int .i64 a, .int .i64 i, .int .i64 n] w fun e w' => e = .returned (.int .i64 71) ∧ Below w.heap.size w w' := by
  have hlt := h.lt
  have HZ := fun w => zig_any n w n0 n1
  generalize zigOf n = u at *
  go_enter Tryz.func74, Tryz.ntmps74
  go_wp2_with fail
  refine (num_any i _).mono ?_
  rintro e x ⟨q, rfl, hc, hq, hB⟩
  have hk := num_picks i i0 i1 wk fn o.ptrs o.data hc hq
  rw [decide_eq_false hi] at hk
  clear hc
  go_wp2_with fail
  refine (HZ _).mono ?_
  rintro e x ⟨rfl, rfl⟩
  go_wp2_with fail
  refine (become_any u _).mono ?_
  rintro e y ⟨r, rfl, hc, hr, hb⟩
  replace hB := hB.trans (hb.mono hB.size)
  have HL := fun m r => change_no a _ q m r _ y (h.below hB hlt.1 hlt.2) o (hk.later hb)
  clear h o hc hk hb
  go_wp2_with fail
  refine (HL _ _).mono ?_
  rintro e y ⟨rfl, hb2⟩
  go_wp2
  go_ret
  exact ⟨rfl, hB.trans (hb2.mono hB.size)⟩


theorem setFreed_at (a : Nat) (tf : Bool) (w : World) (h : ArenaAt 146 w P b l) (o : ObjIs l a p d wk fn fr) :
    Calls Tryz.prog 75 #[.pointer (some ⟨P, 0, none⟩), .int .i64 a, .bool tf] w fun e w' => e = .returned (.int .i64 0) ∧ ArenaAt 146 w' P b (l.set a (headN p d wk fn tf : Nat)) ∧ Chg (· = b) w w' := by
  have hlt := h.lt
  obtain ⟨l', hX⟩ : ∃ x, l.set a (headN p d wk fn tf : Nat) = x := ⟨_, rfl⟩
  rw [hX]
  have hlo := headN_lt (wk := wk) (fn := fn) (fr := tf) o.ptrs o.data
  go_enter Tryz.func75, Tryz.ntmps75
  go_wp2_with fail
  have hV : (w.alloc (.cells #[.bool tf] 4)).cell? ⟨w.heap.size, 0, none⟩ = some (.bool tf) := by simp
  have hB := (Below.refl _ w).alloc (Nat.le_refl _) (.cells #[.bool tf] 4)
  have hQ : w.heap.size < (w.alloc (.cells #[.bool tf] 4)).heap.size := by simp
  refine (ahead_any 0 _).mono ?_
  rintro e x ⟨q, rfl, hc, hq, hb⟩
  replace hV := (hb.cell (p := ⟨_, 0, none⟩) hQ).trans hV
  replace hQ := Nat.lt_of_lt_of_le hQ hb.size
  replace hB := hB.trans (hb.mono hB.size)
  have hk := ahead_picks p d wk fn 0 hc hq
  have hm := setFreed_makes (fr := fr) tf o.right o.ptrs o.data hV hQ
  rw [← o.head] at hm
  have HL := change_yes a 0 _ q _ _ (headN p d wk fn tf : Nat) x (h.below hB hlt.1 hlt.2) o hk (by omega) hm (by omega)
  rw [Nat.add_zero] at HL
  rw [hX] at HL
  clear hX
  clear h o hc hk hV hb hm
  go_wp2_with fail
  refine HL.mono ?_
  rintro e y ⟨rfl, ha, hc⟩
  go_wp2
  go_ret
  exact ⟨rfl, ha, (Chg.of_below hB (Nat.le_refl _)).trans hc⟩

/-! ### Make -/
/-- What Make lays. -/
def madeL (l : List Int) (a p d : Nat) (wk fn : Bool) (serial : Nat) : List Int :=
  (((layL l a (fun _ => 0) (3 + p + d)).set a (headN p d wk fn false : Nat)).set (a + 1) 0).set (a + 2) serial
theorem madeL_length (l : List Int) (a p d : Nat) (wk fn : Bool) (serial : Nat) : (madeL l a p d wk fn serial).length = l.length := by
  unfold madeL; simp
theorem madeL_at {l : List Int} {a p d : Nat} {wk fn : Bool} {serial j : Nat} (h : j < l.length) :
    (madeL l a p d wk fn serial).getD j 0 = if j = a + 2 then (serial : Int) else if j = a then ((headN p d wk fn false : Nat) : Int) else if a ≤ j ∧ j < a + (3 + p + d) then 0 else l.getD j 0 := by
  unfold madeL
  rw [set_at' (by simp; exact h), set_at' (by simp; exact h), set_at' (by simp; exact h), layL_at _ _ _ _ _ h]
  by_cases e1 : j = a + 2
  · rw [if_pos e1, if_pos e1]
  · rw [if_neg e1, if_neg e1]
    by_cases e2 : j = a + 1
    · rw [if_pos e2, if_neg (by omega), if_pos (by omega)]
    · rw [if_neg e2]
theorem madeL_obj {l : List Int} {a : Nat} (serial : Nat) (h : shB p d wk fn = true) (hp : p ≤ 8) (hd : d ≤ 8) (hr : a + (3 + p + d) ≤ l.length) : ObjIs (madeL l a p d wk fn serial) a p d wk fn false :=
  ⟨h, hp, hd, by rw [madeL_length]; exact hr, by rw [madeL_at (by omega), if_neg (by omega), if_pos rfl]⟩

set_option maxHeartbeats 2000000 in
theorem make_yes (a serial : Nat) (w : World) (h : ArenaAt 146 w P b l) (o1 : shB p d wk fn = true) (o2 : p ≤ 8) (o3 : d ≤ 8) (hr : a + (3 + p + d) ≤ l.length) (hs : serial ≤ 1099511627776) :
    Calls Tryz.prog 68 #[.pointer (some ⟨P, 0, none⟩), .int .i64 a, shV p d wk fn, .int .i64 serial] w fun e w' => e = .returned (.int .i64 0) ∧ ArenaAt 146 w' P b (madeL l a p d wk fn serial) ∧ Chg (· = b) w w' := by
  have hlt := h.lt
  have hl := h.len
  have hlo := headN_lt (wk := wk) (fn := fn) (fr := false) o2 o3
  have HH := head_yes p d wk fn false o1 o2 o3
  have HZ := size_yes p d wk fn o1 o2 o3
  have HF : ∀ w, Calls Tryz.prog 102 #[.int .i64 0] w fun e w' => e = .returned (.tuple #[.int .u64 0, .bool true]) ∧ Below w.heap.size w w' := fun w => free_any 0 (by omega) w
  have s1 : decide ((serial : Int) < 0) = false := decide_eq_false (by omega)
  have s2 : decide ((1099511627776 : Int) < (serial : Int)) = false := decide_eq_false (by omega)
  have i0 : IntKind.i64.wrap ((a : Int) + 0) = ((a : Nat) : Int) := by rw [IntWalk.i64_in _ (by omega)]; omega
  have i1 : IntKind.i64.wrap ((a : Int) + 1) = ((a + 1 : Nat) : Int) := by rw [IntWalk.i64_in _ (by omega)]; omega
  have i2 : IntKind.i64.wrap ((a : Int) + 2) = ((a + 2 : Nat) : Int) := by rw [IntWalk.i64_in _ (by omega)]; omega
  have u1 : IntKind.u64.wrap (serial : Int) = (serial : Int) := by rw [IntKind.wrap_u64]; omega
  unfold madeL
  have hll : (layL l a (fun _ => 0) (3 + p + d)).length = l.length := layL_length ..
  obtain ⟨m, hM⟩ : ∃ m, layL l a (fun _ => 0) (3 + p + d) = m := ⟨_, rfl⟩
  rw [hM] at hll ⊢
  generalize headN p d wk fn false = v at *
  have hT := ResAt.new w #[.int .i64 p, .int .i64 d, .bool wk, .bool fn] 45
  go_enter Tryz.func68, Tryz.ntmps68
  go_wp2_with fail
  refine (HH _).mono ?_
  rintro e x ⟨rfl, hb⟩
  replace hT := hT.keep hb
  clear hb HH
  obtain ⟨⟨c0, c1, c2, c3⟩, f0, f1, f2, f3, l1⟩ := hT.facts4
  go_wp2_with fail
  refine (HZ _).mono ?_
  rintro e y ⟨rfl, hb⟩
  replace hT := hT.keep hb
  clear hb HZ c0 c1 c2 c3 f0 f1 f2 f3 l1
  have hB := hT.below
  clear hT
  have HL := fill_any (a : Int) (3 + (p : Int) + (d : Int)) 0 y (h.below hB hlt.1 hlt.2) (by omega) (by omega) (by omega) (by omega) (by omega)
  rw [show errV l.length (a : Int) (3 + (p : Int) + (d : Int)) = 0 from by unfold errV; rw [if_pos (fitsB_of (by omega) (by omega) (by omega))]] at HL
  rw [show fillV l (a : Int) (3 + (p : Int) + (d : Int)) 0 = layL l a (fun _ => 0) (3 + p + d) from by
    unfold fillV; rw [if_pos (fitsB_of (by omega) (by omega) (by omega)), Int.toNat_natCast, show (3 + (p : Int) + (d : Int)).toNat = 3 + p + d from by omega], hM] at HL
  clear hM
  go_wp2_with fail
  refine HL.mono ?_
  rintro e x2 ⟨rfl, ha, hc⟩
  clear HL h
  have hC := (Chg.of_below (S := (· = b)) hB (Nat.le_refl _)).trans hc
  clear hB hc
  go_wp2_with fail
  refine (HF _).mono ?_
  rintro e x3 ⟨rfl, hb⟩
  replace ha := ha.below hb (by have := ha.lt; omega) (by have := ha.lt; omega)
  replace hC := hC.trans (Chg.of_below hb (Nat.le_refl _))
  clear hb HF
  have hin : a + 2 < m.length := by omega
  have H1 := store_there a (v : Int) _ ha (by omega) (by omega)
  go_wp2_with fail
  refine H1.mono ?_
  rintro e x4 ⟨rfl, ha2, hc⟩
  replace hC := hC.trans hc
  clear hc H1 ha
  have H1 := store_there (a + 1) 0 _ ha2 (by simp; omega) (by omega)
  go_wp2_with fail
  refine H1.mono ?_
  rintro e x5 ⟨rfl, ha, hc⟩
  replace hC := hC.trans hc
  clear hc H1 ha2
  have H1 := store_there (a + 2) (serial : Int) _ ha (by simp; omega) (by omega)
  go_wp2_with fail
  refine H1.mono ?_
  rintro e x6 ⟨rfl, ha2, hc⟩
  replace hC := hC.trans hc
  clear hc H1 ha
  go_wp2
  go_ret
  exact ⟨rfl, ha2, hC⟩


end

end Go.Proofs.YtbjmeibcphmgbaaGreat

namespace Go.Proofs.YtbjmeibcphmgbaaGreat
open Go.ChangeShapes Go.WideShapes Go.ChangeAt Go.RowKit

set_option linter.unusedSimpArgs false
set_option linter.unusedVariables false

/-- What Gone tells of a place. -/
def mayGo (n : Nat) : Bool := decide (1 ≤ n ∧ n ≤ 131072)
def goneN (n : Nat) : Nat := if mayGo n then 2 + n * 4 else 0

set_option maxHeartbeats 1000000 in
theorem gone_any (n : Nat) (hn : n < 4611686018427387904) (w : World) :
    Calls Tryz.prog 86 #[.int .i64 n] w fun e w' => e = .returned (.tuple #[.int .u64 (goneN n : Nat), .bool (mayGo n)]) ∧ Below w.heap.size w w' := by
  have hL := lay_2_64 n hn (by omega)
  have o1 : bits .or .u64 2 _ = _ := or_val 2 (n * 4) 2 n (by omega) (by omega) (by omega) (by omega)
  by_cases h1 : 1 ≤ n
  · by_cases h2 : n ≤ 131072
    · rw [show goneN n = 2 + n * 4 from by simp [goneN, mayGo, h1, h2], show mayGo n = true from decide_eq_true ⟨h1, h2⟩]
      have i1 : decide ((n : Int) < 1) = false := decide_eq_false (by omega)
      have i2 : decide ((131072 : Int) < (n : Int)) = false := decide_eq_false (by omega)
      generalize 2 + n * 4 = v at *
      generalize n * 4 = u at *
      go_enter Tryz.func86, Tryz.ntmps86
      go_wp2_with fail
      refine (lay_one_1_2 _).mono ?_
      rintro e x ⟨rfl, hb⟩
      go_wp2_with fail
      refine (hL _).mono ?_
      rintro e y ⟨rfl, hb2⟩
      go_wp2
      go_ret2
      exact ⟨rfl, hb.trans (hb2.mono hb.size)⟩
    · rw [show goneN n = 0 from by simp [goneN, mayGo, h1, h2], show mayGo n = false from decide_eq_false fun h => h2 h.2]
      have i1 : decide ((n : Int) < 1) = false := decide_eq_false (by omega)
      have i2 : decide ((131072 : Int) < (n : Int)) = true := decide_eq_true (by omega)
      go_enter Tryz.func86, Tryz.ntmps86
      go_wp2
      go_ret2
      exact ⟨rfl, Below.refl _ _⟩
  · rw [show goneN n = 0 from by simp [goneN, mayGo, h1], show mayGo n = false from decide_eq_false fun h => h1 h.1]
    have i1 : decide ((n : Int) < 1) = true := decide_eq_true (by omega)
    go_enter Tryz.func86, Tryz.ntmps86
    go_wp2
    go_ret2
    exact ⟨rfl, Below.refl _ _⟩

/-- Whether a word is a Gone. -/
def isGone (a : Nat) : Bool := mayGo (a / 4) && decide (goneN (a / 4) = a)

set_option maxHeartbeats 1000000 in
theorem where_any (a : Nat) (ha : a < 18446744073709551616) (w : World) :
    Calls Tryz.prog 117 #[.int .u64 a] w fun e w' => e = .returned (.tuple #[.int .i64 (if isGone a then (a / 4 : Nat) else 0 : Nat), .bool (isGone a)]) ∧ Below w.heap.size w w' := by
  have hR := read_2_64 a ha
  rw [show a / 4 % 4611686018427387904 = a / 4 from by omega] at hR
  have hG := gone_any (a / 4) (by omega)
  unfold isGone
  generalize a / 4 = n at *
  generalize mayGo n = ok at *
  generalize goneN n = v at *
  go_enter Tryz.func117, Tryz.ntmps117
  go_wp2_with fail
  refine (hR _).mono ?_
  rintro e x ⟨rfl, hb⟩
  go_wp2_with fail
  refine (hG _).mono ?_
  rintro e y ⟨rfl, hb2⟩
  have hB := hb.trans (hb2.mono hb.size)
  clear hb hb2 hR hG
  cases ok
  · go_wp2
    go_ret2
    exact ⟨by simp, hB⟩
  · by_cases hva : v = a
    · subst hva
      go_wp2
      go_ret2
      exact ⟨by simp, hB⟩
    · have n1 : ((v : Int) = (a : Int)) = False := by simp; omega
      go_wp2
      all_goals
        go_ret2
        exact ⟨by simp [hva], hB⟩




end Go.Proofs.YtbjmeibcphmgbaaGreat

namespace Go.Proofs.YtbjmeibcphmgbaaGreat
open Go.ChangeShapes Go.WideShapes Go.ChangeAt Go.RowKit

set_option linter.unusedSimpArgs false
set_option linter.unusedVariables false



/-- What is copied, as the walk's law wants it. -/
theorem move_cells {l : List Int} {a c n : Nat} (w : World) (b : Nat) (t : TypeId) (hr : BlkIs w b (l.map (Value.int .u64)).toArray t) (ha : a + n ≤ l.length) :
    ∀ j v, ((List.range n).map fun j => Value.int .u64 (l.getD (a + j) 0))[j]? = some v → w.cell? ((⟨b, a, none⟩ : Addr).add j) = some v := by
  intro j v hv
  have e : (⟨b, a, none⟩ : Addr).add j = ⟨b, a + j, none⟩ := by unfold Addr.add; split <;> simp_all
  rw [e, hr.cell]
  by_cases hj : j < n
  · simp [hj] at hv
    subst hv
    have : a + j < l.length := by omega
    simp [List.getD, this]
  · simp [hj] at hv

theorem move_yes {p b : Nat} {l : List Int} (a c n : Nat) (w : World) (h : ArenaAt 146 w p b l) (h1 : a + n ≤ l.length) (h2 : c + n ≤ l.length) (hpos : 0 < n) :
    Calls Tryz.prog 85 #[.pointer (some ⟨p, 0, none⟩), .int .i64 a, .int .i64 c, .int .i64 n] w fun e w' => e = .returned (.int .i64 0) ∧ ArenaAt 146 w' p b (layL l c (fun j => l.getD (a + j) 0) n) ∧ Chg (· = b) w w' := by
  have hl := h.len
  have H := Lib.hid h
  have F1 := Lib.hid (fitsB_of (len := l.length) (a := a) (n := n) (by omega) (by omega) (by omega))
  have F2 := Lib.hid (fitsB_of (len := l.length) (a := c) (n := n) (by omega) (by omega) (by omega))
  have hs := h.slot
  have s1 : IntKind.i64.wrap ((a : Int) + n) = (a : Int) + n := IntWalk.i64_in _ (by omega)
  have s2 : IntKind.i64.wrap ((c : Int) + n) = (c : Int) + n := IntWalk.i64_in _ (by omega)
  have s3 : ((a : Int) + n).toNat = a + n := by omega
  have s4 : ((c : Int) + n).toNat = c + n := by omega
  have a0 : (0 : Int) ≤ a := by omega
  have c0 : (0 : Int) ≤ c := by omega
  have n0 : (0 : Int) ≤ n := by omega
  have a1 : (a : Int) + n ≤ l.length := by omega
  have c1 : (c : Int) + n ≤ l.length := by omega
  have a2 : (a : Int) ≤ (a : Int) + n := by omega
  have c2 : (c : Int) ≤ (c : Int) + n := by omega
  have a3 : (0 : Int) ≤ (a : Int) + n := by omega
  have c3 : (0 : Int) ≤ (c : Int) + n := by omega
  have hpb : p ≠ b := h.ne (by decide)
  clear h
  go_enter Tryz.func85, Tryz.ntmps85
  go_wp2_with ((with_reducible refine (has_any _ _ _ H.out (by omega) (by omega) (by omega) (by omega)).mono ?_); rintro e w' ⟨rfl, rfl⟩; first | rw [F1.out] | rw [F2.out])
  by_cases hn : 0 < n
  · have hrow := H.out.row
    have hcs := move_cells (c := c) w b _ hrow h1
    have hlen : ((List.range n).map fun j => Value.int .u64 (l.getD (a + j) 0)).length = n := by simp
    have hone : ∀ v ∈ (List.range n).map fun j => Value.int .u64 (l.getD (a + j) 0), v.oneCell' = true := by
      intro v hv; obtain ⟨j, _, rfl⟩ := List.mem_map.1 hv; rfl
    obtain ⟨cs, hdef⟩ : ∃ cs, ((List.range n).map fun j => Value.int .u64 (l.getD (a + j) 0)) = cs := ⟨_, rfl⟩
    rw [hdef] at hcs hlen hone
    have Hd := Lib.hid hdef
    have Hc := Lib.hid hcs
    have Hl := Lib.hid hlen
    have Ho := Lib.hid hone
    have Hr := Lib.hid hrow
    have hna : ¬ l.length = a := by omega
    have hnc : ¬ l.length = c := by omega
    clear hdef hcs hlen hone hrow
    go_region_held3 (fun w' => w'.cell? ⟨p, 0, none⟩ = some (.slice (some ⟨b, 0, none⟩) l.length l.length)) (first | go_keep | (rw [cell_setRow_other _ _ _ _ hpb]; assumption))
      ((refine step_copy_at rfl (.tmp 29) (.tmp 38) 144 144 rfl 65 Tryz.underlying144 (by kernel_rfl) (some ⟨b, c, none⟩) (some ⟨b, a, none⟩) n (l.length - c) n (l.length - a) (by rfl) (by rfl) b c (l.map (Value.int .u64)) 65 Hr.out cs (by rw [Hl.out]; simp) (fun _ => ⟨rfl, _, rfl, Hc.out⟩) (by rw [Hl.out]; simpa using h2) Ho.out ?_))
    go_wp2
    go_ret
    refine ⟨rfl, ?_, (Chg.refl (· = b) _).drew.setRow (.inl rfl) _⟩
    rw [← Hd.out]
    have hA : ArenaAt 146 w.drew p b l := ⟨H.out.head, H.out.row, H.out.len, H.out.fits⟩
    exact hA.put (by decide) h2 fun j _ => getD_fits H.out.fits _
  · exact absurd hpos hn



end Go.Proofs.YtbjmeibcphmgbaaGreat

namespace Go.Proofs.YtbjmeibcphmgbaaGreat
open Go.RowKit

/-- The iterator hands yield its k-th answer at the k-th call, and goes on as long as yield says so: at most M times. -/
def Asked (F : Fence) (n : Nat) (P : Program) (g : Nat) (lb : Array Value) (ask : Nat → Array Value) (M : Nat) (w : World) : Prop :=
  ∀ (l : Nat) (J Jx : Nat → World → Prop) (W : World), Below w.heap.size w W → (∀ k V, J k V → k < M) →
    (∀ k V, J k V → YieldAt F (n - 1) P l (ask k) V fun e V' => (e = .returned (.bool true) ∧ J (k + 1) V') ∨ (e = .returned (.bool false) ∧ Jx k V')) → J 0 W →
    CallsIn F n P g (#[.func (.yield l) #[] #[]] ++ lb) W fun e V => (∃ v, e = .returned v) ∧ ∃ k, Jx k V

/-- How the body of the k-th round may be left: it goes on, or it leaves the loop by c. -/
def askPost (B : Nat) (I : Nat → World → Prop) (Ix : Code → Nat → World → Prop) (k : Nat) (V : World) : Exit → Act → World → Prop
  | .normal, _, V' => KeepsFrom B V V' ∧ I (k + 1) V'
  | .ret, _, V' => KeepsFrom B V V' ∧ Ix .ret k V'
  | .exit id, _, V' => KeepsFrom B V V' ∧ Ix (.exit id) k V'
  | _, _, _ => False

theorem range_asked {F : Fence} {n : Nat} {P : Program} {g : Operand} {ps : Array Tmp} {assign body : Code} {Q : Exit → Act → World → Prop} {a : Act} {w : World}
    (hro : F.round = none) (h1 : 1 ≤ n) {gf : Nat} {lb : Array Value} (hg : a.eval g = .func (.func gf) #[] lb) (hF : F.fn gf) (hent : ∀ args w, (callFunc gf args).run P w = .ok (.enter gf args) w)
    {ask : Nat → Array Value} {M : Nat} (hask : Asked F (n - 1) P gf lb ask M w) (hps : ∀ k, (ask k).size = ps.size) (I : Nat → World → Prop) (Ix : Code → Nat → World → Prop)
    (hI : OwnFrom w.heap.size I) (hIx : ∀ c, OwnFrom w.heap.size (Ix c)) (hM : ∀ k V, I k V → k < M) (h0 : I 0 w) (row : Nat → Act)
    (hassign : ∀ (l k : Nat) (V : World) (K : Act → World → Prop), I k V → K (row k) V →
      assign.wpIn (F.inRound l) (n - 1 - 1) P (Exit.then K (fun _ _ _ => False)) { tmps := (ps.zip (ask k)).foldl (fun t (p, v) => t.setIfInBounds p v) a.tmps, defers := [] } V)
    (hbody : ∀ (l k : Nat) (V : World), w.heap.size ≤ l → I k V → body.wpIn (F.inRound l) (n - 1 - 1) P (askPost w.heap.size I Ix k V) (row k) V)
    (hstop : ∀ (D : Nat) (c : Code) (k : Nat) (V : World), w.heap.size ≤ D → Ix c k V → V.heap[D]? = some (.deferred (some [])) →
      c.wpIn F n P Q { a with defers := { target := .collected D, args := #[] } :: a.defers } V) :
    (Code.rangeFunc g ps assign body).wpIn F n P Q a w := by
  refine wpIn_rangeFunc fun fn hfn => ?_
  rw [hro]
  -- the record of the loop, in state s with jump j
  let R : LoopState → Option Code → Loop := fun s j => { state := s, pending := j, fn, tmps := a.tmps, params := ps, assign, body, defers := w.heap.size }
  let W := (w.alloc (.deferred (some []))).alloc (.loop (R .ready none))
  -- what of the books lies where while the iterator runs
  let Books : LoopState → Option Code → World → Prop := fun s j V => V.heap[w.heap.size + 1]? = some (.loop (R s j)) ∧ V.heap[w.heap.size]? = some (.deferred (some []))
  have hBooks0 : Books .ready none W := by
    constructor
    · have := World.alloc_heap_new (w.alloc (.deferred (some []))) (.loop (R .ready none))
      rwa [World.size_alloc] at this
    · exact (Below.heap_alloc _ _ _ (by simp)).trans (World.alloc_heap_new w _)
  -- one turn of the record keeps the caller's facts and the other book
  have turn : ∀ {s s' : LoopState} {j j' : Option Code} {V : World}, Books s j V →
      Books s' j' (V.putObj (w.heap.size + 1) (.loop (R s' j'))) := fun h =>
    ⟨World.putObj_heap_same (Array.getElem?_eq_some_iff.1 h.1).1, (World.putObj_heap_other (by omega)).trans h.2⟩
  have keep : ∀ {s : LoopState} {j : Option Code} {V V' : World}, Books s j V → KeepsFrom w.heap.size V V' → Books s j V' := fun h k =>
    ⟨k.same _ _ (by omega) h.1 rfl, k.same _ _ (Nat.le_refl _) h.2 rfl⟩
  have stay : ∀ {J : Nat → World → Prop} {s : LoopState} {j : Option Code} {k : Nat} {V : World} (o : Obj), OwnFrom w.heap.size J → Books s j V → J k V → J k (V.putObj (w.heap.size + 1) o) := fun o hJ h hj =>
    hJ.putObj o hj (by omega) h.1 rfl
  refine ⟨w.heap.size + 1, [{ target := .collected w.heap.size, args := #[] }], W, { target := .fn (.func gf) lb, args := #[.func (.yield (w.heap.size + 1)) #[] #[]] }, W, gf,
    #[.func (.yield (w.heap.size + 1)) #[] #[]] ++ lb, W, run_enterLoop_outer _ _ _ _ _, ?_, ?_, ?_, fun _ => h1, ?_⟩
  · simp only [resolve, hg]
    simp [go_sem]
  · intro f' hf'
    simp [Target.leads] at hf'
    exact hf' ▸ hF
  · simp [invoke, go_sem, hent]
  refine (hask (w.heap.size + 1) (fun k V => I k V ∧ Books .ready none V) (fun k V => ∃ c, Ix c k V ∧ Books .done (some c) V) W ?_ (fun k V h => hM k V h.1) ?_ ⟨?_, hBooks0⟩).mono ?_
  · exact ((Below.refl _ w).alloc (Nat.le_refl _) _).alloc (by simp) _
  · -- a round
    rintro k V ⟨hi, hb⟩
    refine ⟨fn, _, assign, body, run_yield (P := P) (args := ask k) hb.1 (hps k), roundIn_of_wpIn hfn (hassign _ k V _ hi ?_)⟩
    refine ⟨_, run_beginRound hb.1 rfl, ?_⟩
    have hb1 : Books .busy none (V.putObj (w.heap.size + 1) (.loop (R .busy none))) := turn hb
    refine wpIn_mono (hbody _ k _ (by omega) (stay _ hI hb hi)) ?_
    rintro e a' V' hp
    cases e with
    | normal =>
      obtain ⟨hk, hi'⟩ := hp
      have hb2 := keep hb1 hk
      exact ⟨_, _, run_endRound none hb2.1, .inl ⟨rfl, stay _ hI hb2 hi', turn hb2⟩⟩
    | ret =>
      obtain ⟨hk, hi'⟩ := hp
      have hb2 := keep hb1 hk
      exact ⟨_, _, run_endRound (some .ret) hb2.1, .inr ⟨rfl, .ret, stay _ (hIx _) hb2 hi', turn hb2⟩⟩
    | exit id =>
      obtain ⟨hk, hi'⟩ := hp
      have hb2 := keep hb1 hk
      exact ⟨_, _, run_endRound (some (.exit id)) hb2.1, .inr ⟨rfl, .exit id, stay _ (hIx _) hb2 hi', turn hb2⟩⟩
    | goto t => exact hp.elim
    | panic ch => exact hp.elim
    | outgrown => exact hp.elim
  · exact hI.alloc _ (hI.alloc _ h0)
  · -- behind the iterator
    rintro e V ⟨⟨v, rfl⟩, k, c, hi, hb⟩
    exact ⟨some c, _, run_endLoop hb.1 (by simp [R]), hstop _ c k _ (Nat.le_refl _) (stay _ (hIx c) hb hi) ((World.putObj_heap_other (by omega)).trans hb.2)⟩

end Go.Proofs.YtbjmeibcphmgbaaGreat

namespace Go.Proofs.YtbjmeibcphmgbaaGreat
namespace Cls

/-- The size at place k. -/
def sz (k : Nat) : Nat := if k % 2 = 0 then 4 * 2 ^ (k / 2) else 6 * 2 ^ (k / 2)
theorem sz_even (j : Nat) : sz (2 * j) = 4 * 2 ^ j := by
  unfold sz
  rw [if_pos (by omega), show 2 * j / 2 = j from by omega]
theorem sz_odd (j : Nat) : sz (2 * j + 1) = 6 * 2 ^ j := by
  unfold sz
  rw [if_neg (by omega), show (2 * j + 1) / 2 = j from by omega]
/-- Two sizes one behind the other: the later is half as much more, or a third. -/
theorem sz_next (k : Nat) : 2 * sz (k + 1) = 3 * sz k ∨ 3 * sz (k + 1) = 4 * sz k := by
  have h : k % 2 = 0 ∨ k % 2 = 1 := by omega
  rcases h with h | h
  · obtain ⟨j, rfl⟩ : ∃ j, k = 2 * j := ⟨k / 2, by omega⟩
    left
    rw [sz_even, sz_odd]; omega
  · obtain ⟨j, rfl⟩ : ∃ j, k = 2 * j + 1 := ⟨k / 2, by omega⟩
    right
    rw [show 2 * j + 1 + 1 = 2 * (j + 1) from by omega, sz_even, sz_odd, Nat.pow_succ]; omega
theorem sz_pos (k : Nat) : 4 ≤ sz k := by
  have h : 0 < 2 ^ (k / 2) := Nat.pos_of_ne_zero (by simp)
  unfold sz
  split <;> omega
theorem sz_lt_succ (k : Nat) : sz k < sz (k + 1) := by
  have h := sz_next k
  have := sz_pos k
  omega
theorem sz_lt {j k : Nat} (h : j < k) : sz j < sz k := by
  induction k with
  | zero => omega
  | succ k ih =>
    by_cases e : j = k
    · exact e ▸ sz_lt_succ k
    · exact Nat.lt_trans (ih (by omega)) (sz_lt_succ k)
theorem sz_le {j k : Nat} (h : j ≤ k) : sz j ≤ sz k := by
  by_cases e : j = k
  · rw [e]; exact Nat.le_refl _
  · exact Nat.le_of_lt (sz_lt (by omega))
theorem sz_28 : sz 28 = 65536 := by decide
theorem sz_0 : sz 0 = 4 := by decide
theorem pow_le {j : Nat} (h : j < 15) : 2 ^ j ≤ 16384 := Nat.pow_le_pow_right (by omega) (show j ≤ 14 by omega)

/-- The place of the least size that is m or above (m no more than 2^16). -/
def at' (m : Nat) : Nat := ((List.range 29).find? fun k => decide (m ≤ sz k)).getD 0
theorem at_spec {m : Nat} (h : m ≤ 65536) : at' m ≤ 28 ∧ m ≤ sz (at' m) ∧ ∀ j, j < at' m → sz j < m := by
  cases hf : (List.range 29).find? fun k => decide (m ≤ sz k) with
  | none =>
    have := List.find?_eq_none.1 hf 28 (by simp)
    rw [sz_28] at this
    simp at this; omega
  | some k =>
    obtain ⟨h1, us, bs, h2, h3⟩ := List.find?_eq_some_iff_append.1 hf
    have hl := congrArg (fun l => l[us.length]?) h2
    simp only [List.getElem?_append_right (Nat.le_refl _), Nat.sub_self, List.getElem?_cons_zero] at hl
    have hk : us.length = k ∧ k < 29 := by
      have hlen := congrArg List.length h2
      simp at hlen
      rw [List.getElem?_range (by omega)] at hl
      simp at hl; omega
    have hat : at' m = k := by unfold at'; rw [hf]; rfl
    rw [hat]
    refine ⟨by omega, by simpa using h1, fun j hj => ?_⟩
    have hj2 := congrArg (fun l => l[j]?) h2
    rw [List.getElem?_append_left (by omega), List.getElem?_range (by omega)] at hj2
    have := h3 j (List.mem_of_getElem? hj2.symm)
    simpa using this
theorem at_eq {m k : Nat} (h : m ≤ 65536) (h1 : m ≤ sz k) (h2 : ∀ j, j < k → sz j < m) : at' m = k := by
  obtain ⟨_, a2, a3⟩ := at_spec h
  by_cases e : at' m < k
  · have := h2 _ e; omega
  · by_cases e2 : k < at' m
    · have := a3 _ e2; omega
    · omega
/-- The size that m is rounded to. -/
def rd (m : Nat) : Nat := sz (at' m)
theorem rd_ge {m : Nat} (h : m ≤ 65536) : m ≤ rd m := (at_spec h).2.1
theorem at_sz {k : Nat} (h : k ≤ 28) : at' (sz k) = k := at_eq (by rw [← sz_28]; exact sz_le h) (Nat.le_refl _) fun _ hj => sz_lt hj
theorem rd_rd {m : Nat} (h : m ≤ 65536) : rd (rd m) = rd m := by
  unfold rd
  rw [at_sz (at_spec h).1]
theorem rd_half {m : Nat} (h : m ≤ 65536) (h3 : 3 ≤ m) : 2 * rd m ≤ 3 * m := by
  obtain ⟨_, a2, a3⟩ := at_spec h
  unfold rd
  cases hk : at' m with
  | zero => rw [sz_0]; omega
  | succ k =>
    have := a3 k (by omega)
    have := sz_next k
    omega

end Cls
end Go.Proofs.YtbjmeibcphmgbaaGreat

namespace Go.Proofs.YtbjmeibcphmgbaaGreat



/-- No operation defers. -/
def plainOps (ops : Array Oper) : Bool := ops.all fun o => match o.op with | .defer _ => false | _ => true



end Go.Proofs.YtbjmeibcphmgbaaGreat

namespace Go.Proofs.YtbjmeibcphmgbaaGreat
open Go.RowKit Go.Shelf

set_option linter.unusedSimpArgs false
set_option linter.unusedVariables false
attribute [local go_sem] Oper.semAt_some

abbrev encSize (k : Nat) : Array Value := #[.int .i64 (k : Int), .int .i64 (Cls.sz k : Int)]

set_option maxRecDepth 100000 in
set_option maxHeartbeats 2000000 in
theorem rising_asked (n : Nat) (hn1 : 1 ≤ n) (w : World) : Asked Fence.wide n Tryz.prog 123 #[] encSize 29 w := by
  intro l J Jx W _ hM hY h0
  refine callsIn_of_wp Tryz.func123 rfl trivial ?_ rfl
  simp only [Tryz.ntmps123, List.size_toArray, List.length_cons, List.length_nil, Nat.reduceAdd, Nat.reduceSub, Array.replicate_succ, Array.replicate_zero, List.push_toArray, List.append_toArray, List.nil_append, List.cons_append]
  gi_wp2
  gi_loopw [2, 3] (fun pl po wr => ∃ j q : Nat, Hid (q = 2 ^ j) ∧ pl = .int .i64 (2 * (j : Int)) ∧ po = .int .i64 q ∧ J (2 * j) wr) (fun pl _ _ => 29 - (intOf pl).toNat)
  case atStart => exact ⟨0, 1, Lib.hid rfl, rfl, rfl, h0⟩
  case round =>
    obtain ⟨j, q, Hq, rfl, rfl, hJ⟩ := hrel
    have hj := hM _ _ hJ
    have hp := Cls.pow_le (j := j) (by omega)
    rw [← Hq.out] at hp
    have he := Lib.hid (Cls.sz_even j)
    have ho := Lib.hid (Cls.sz_odd j)
    rw [← Hq.out] at he ho
    obtain ⟨fn, tmps, assign, body, hy, hR⟩ := hY _ _ hJ
    dsimp only [encSize] at hy
    rw [he.out, show ((2 * j : Nat) : Int) = 2 * (j : Int) from by omega, show ((4 * q : Nat) : Int) = 4 * (q : Int) from by omega] at hy
    gi_wp2
    refine hR.mono ?_
    clear hR hy
    rintro e V1 (⟨rfl, hJ1⟩ | ⟨rfl, hJx⟩)
    · have hj1 := hM _ _ hJ1
      obtain ⟨fn, tmps, assign, body, hy, hR⟩ := hY _ _ hJ1
      dsimp only [encSize] at hy
      rw [ho.out, show ((2 * j + 1 : Nat) : Int) = 2 * (j : Int) + 1 from by omega, show ((6 * q : Nat) : Int) = 6 * (q : Int) from by omega] at hy
      gi_wp2
      refine hR.mono ?_
      clear hR hy
      rintro e V2 (⟨rfl, hJ2⟩ | ⟨rfl, hJx⟩)
      · gi_wp2
        refine ⟨⟨j + 1, q * 2, ?_, ?_, ?_, hJ2⟩, ?_⟩
        · exact Lib.hid (by rw [Nat.pow_succ, Hq.out])
        · go_num
        · go_num
        · simp [intOf]; omega
      · gi_wp2
        refine bodyPost_ret (results_none rfl _ _ _) rfl ?_
        exact ⟨⟨_, rfl⟩, _, hJx⟩
    · gi_wp2
      refine ⟨fun f hf => (nomatch hf), ?_⟩
      gi_wp2
      refine bodyPost_ret (results_none rfl _ _ _) rfl ?_
      exact ⟨⟨_, rfl⟩, _, hJx⟩

theorem rising_any (n : Nat) (w : World) : CallsIn Fence.wide n Tryz.prog 99 #[] w fun e w' => e = .returned (.func (.func 123) #[] #[]) ∧ w' = w := by
  refine callsIn_of_wp Tryz.func99 rfl trivial ?_ rfl
  simp only [Tryz.ntmps99, List.size_toArray, List.length_cons, List.length_nil, Nat.reduceAdd, Nat.reduceSub, Array.replicate_succ, Array.replicate_zero, List.push_toArray, List.append_toArray, List.nil_append, List.cons_append]
  gi_wp2
  go_ret
  exact ⟨rfl, rfl⟩

/-- The four boxes of a call of least, each by itself. -/
def boxes (w : World) (n : Int) : World := (((w.alloc (.cells #[.int .i64 n] 3)).alloc (.cells #[.int .i64 0] 3)).alloc (.cells #[.int .i64 0] 3)).alloc (.cells #[.bool false] 4)
theorem boxes_is (w : World) (n : Int) : Boxed (boxes w n) w.heap.size 3 (.int .i64 n) ∧ Boxed (boxes w n) (w.heap.size + 1) 3 (.int .i64 0) ∧ Boxed (boxes w n) (w.heap.size + 1 + 1) 3 (.int .i64 0) ∧
    Boxed (boxes w n) (w.heap.size + 1 + 1 + 1) 4 (.bool false) ∧ Below w.heap.size w (boxes w n) ∧ (boxes w n).heap.size = w.heap.size + 4 := by
  have b0 := (((Boxed.new w 3 (.int .i64 n)).alloc (.cells #[.int .i64 0] 3)).alloc (.cells #[.int .i64 0] 3)).alloc (.cells #[.bool false] 4)
  have b1 := ((Boxed.new (w.alloc (.cells #[.int .i64 n] 3)) 3 (.int .i64 0)).alloc (.cells #[.int .i64 0] 3)).alloc (.cells #[.bool false] 4)
  have b2 := (Boxed.new ((w.alloc (.cells #[.int .i64 n] 3)).alloc (.cells #[.int .i64 0] 3)) 3 (.int .i64 0)).alloc (.cells #[.bool false] 4)
  have b3 := Boxed.new (((w.alloc (.cells #[.int .i64 n] 3)).alloc (.cells #[.int .i64 0] 3)).alloc (.cells #[.int .i64 0] 3)) 4 (.bool false)
  simp only [World.size_alloc] at b0 b1 b2 b3
  exact ⟨b0, b1, b2, b3, ((((Below.refl _ w).alloc (Nat.le_refl _) _).alloc (by simp) _).alloc (by simp; omega) _).alloc (by simp; omega) _, by simp [boxes]⟩

set_option maxRecDepth 100000 in
set_option maxHeartbeats 4000000 in
theorem least_out (n : Int) (i0 : -9223372036854775808 ≤ n) (i1 : n ≤ 9223372036854775807) (ho : n < 1 ∨ 65536 < n) (w : World) :
    Calls Tryz.prog 64 #[.int .i64 n] w fun e w' => e = .returned (.tuple #[.int .i64 0, .int .i64 0, .bool false]) ∧ Below w.heap.size w w' := by
  refine (callsIn_wide (n := 9)).1 ?_
  refine callsIn_of_wp_marks Tryz.func64 rfl trivial ?_ rfl
  simp only [Tryz.ntmps64, List.size_toArray, List.length_cons, List.length_nil, Nat.reduceAdd, Nat.reduceSub, Array.replicate_succ, Array.replicate_zero, List.push_toArray, List.append_toArray, List.nil_append, List.cons_append]
  obtain ⟨b0, b1, b2, b3, hB, _⟩ := boxes_is w n
  have c1 := b1.cell
  have c2 := b2.cell
  have c3 := b3.cell
  by_cases h1 : n < 1
  · gi_wp2
    refine ⟨_, ?_, rfl, hB⟩
    simp [results, Tryz.f64, go_sem, c1, c2, c3, boxes]
  · have h2 : 65536 < n := by omega
    gi_wp2
    refine ⟨_, ?_, rfl, hB⟩
    simp [results, Tryz.f64, go_sem, c1, c2, c3, boxes]

set_option maxRecDepth 100000 in
set_option maxHeartbeats 4000000 in
theorem least_in (m : Nat) (m0 : 1 ≤ m) (m1 : m ≤ 65536) (w : World) :
    Calls Tryz.prog 64 #[.int .i64 m] w fun e w' => e = .returned (.tuple #[.int .i64 (Cls.at' m), .int .i64 (Cls.rd m), .bool true]) ∧ Below w.heap.size w w' := by
  have hfF : Fence.wide.fn 99 := trivial
  refine (callsIn_wide (n := 9)).1 ?_
  refine callsIn_of_wp_marks Tryz.func64 rfl trivial ?_ rfl
  simp only [Tryz.ntmps64, List.size_toArray, List.length_cons, List.length_nil, Nat.reduceAdd, Nat.reduceSub, Array.replicate_succ, Array.replicate_zero, List.push_toArray, List.append_toArray, List.nil_append, List.cons_append]
  have hm0 : ((m : Int) < 1) = False := by simp; omega
  have hm1 : ((65536 : Int) < m) = False := by simp; omega
  gi_wp2_with (gi_at_call 99; refine (rising_any _ _).mono ?_; rintro e w' ⟨rfl, rfl⟩)
  obtain ⟨bN, bK, bS, bO, hB0, hsz⟩ := boxes_is w m
  obtain ⟨W0, hW0⟩ : ∃ W0, boxes w m = W0 := ⟨_, rfl⟩
  rw [hW0] at bN bK bS bO hB0 hsz
  unfold boxes at hW0
  rw [hW0]
  clear hW0
  have hown : ∀ (t : TypeId) (B : Nat) (v : Value), OwnFrom W0.heap.size (fun (_ : Nat) V => Boxed V B t v) := fun t B v => Own.from (boxed_own B t (fun _ => v)) _
  refine range_asked rfl (by omega) (gf := 123) (lb := #[]) rfl trivial (enters_of Tryz.func123 (by kernel_rfl) rfl) (rising_asked 8 (by omega) W0) (fun _ => rfl)
    (fun k V => (∀ j, j < k → Cls.sz j < m) ∧ Boxed V w.heap.size 3 (.int .i64 m) ∧ Boxed V (w.heap.size + 1) 3 (.int .i64 0) ∧ Boxed V (w.heap.size + 1 + 1) 3 (.int .i64 0) ∧ Boxed V (w.heap.size + 1 + 1 + 1) 4 (.bool false) ∧ Below w.heap.size W0 V)
    (fun c k V => (c = .ret ∧ k = Cls.at' m) ∧ Boxed V (w.heap.size + 1) 3 (.int .i64 (Cls.at' m)) ∧ Boxed V (w.heap.size + 1 + 1) 3 (.int .i64 (Cls.rd m)) ∧ Boxed V (w.heap.size + 1 + 1 + 1) 4 (.bool true) ∧ Below w.heap.size W0 V)
    ((ownFrom_pure _ _).and ((hown _ _ _).and ((hown _ _ _).and ((hown _ _ _).and ((hown _ _ _).and (ownFrom_below (by omega) (by omega)))))))
    (fun c => (ownFrom_pure _ (fun k => c = .ret ∧ k = Cls.at' m)).and ((hown _ _ _).and ((hown _ _ _).and ((hown _ _ _).and (ownFrom_below (by omega) (by omega))))))
    ?bound ⟨fun j hj => by omega, bN, bK, bS, bO, Below.refl _ _⟩
    (fun k => { tmps := #[.int .i64 m, .pointer (some ⟨w.heap.size, 0, none⟩), .pointer (some ⟨w.heap.size + 1, 0, none⟩), .pointer (some ⟨w.heap.size + 1 + 1, 0, none⟩), .pointer (some ⟨w.heap.size + 1 + 1 + 1, 0, none⟩), .int .i64 k, .int .i64 (Cls.sz k), .int .i64 m, .bool false, .bool false, .int .i64 m, .bool false, .bool false,
      .func (.func 123) #[] #[], .int .i64 k, .int .i64 (Cls.sz k), undef, undef, undef, undef, undef], defers := [] })
    ?assign ?body ?stop
  case bound =>
    rintro k V ⟨hk, _⟩
    by_cases e : k < 29
    · exact e
    · have := hk 28 (by omega)
      rw [Cls.sz_28] at this; omega
  case assign =>
    rintro l k V K hI hK
    gi_wp2
    exact hK
  case body =>
    rintro l k V hl ⟨hk, cN, cK, cS, cO, hB⟩
    have hsV := hB.size
    have f0 := cK.frozen
    have f1 := cS.frozen
    have f2 := cO.frozen
    have a0 := cN.cell
    have a1 := cK.cell
    have a2 := cS.cell
    have a3 := cO.cell
    by_cases hx : m ≤ Cls.sz k
    · have hx' : ((m : Int) ≤ (Cls.sz k : Int)) = True := by simp; omega
      have hat : Cls.at' m = k := Cls.at_eq m1 hx hk
      have hrd : Cls.rd m = Cls.sz k := by unfold Cls.rd; rw [hat]
      have Hat := Lib.hid hat
      have Hrd := Lib.hid hrd
      clear hat hrd hx hk
      gi_wp2
      rw [show (Value.int .i64 (k : Int)) = .int .i64 (Cls.at' m : Nat) from by rw [Hat.out], show (Value.int .i64 (Cls.sz k : Int)) = .int .i64 (Cls.rd m : Nat) from by rw [Hrd.out]]
      exact ⟨((KeepsOthers.setCell _ _ _).from _).trans (((KeepsOthers.setCell _ _ _).from _).trans ((KeepsOthers.setCell _ _ _).from _)), ⟨rfl, Hat.out.symm⟩,
        ((cK.set _).other (by omega) _).other (by omega) _, ((cS.other (by omega) _).set _).other (by omega) _, ((cO.other (by omega) _).other (by omega) _).set _,
        ((hB.setCell (p := ⟨w.heap.size + 1, 0, none⟩) (by simp) _).setCell (p := ⟨w.heap.size + 1 + 1, 0, none⟩) (by simp; omega) _).setCell (p := ⟨w.heap.size + 1 + 1 + 1, 0, none⟩) (by simp; omega) _⟩
    · have hx' : ((m : Int) ≤ (Cls.sz k : Int)) = False := by simp; omega
      gi_wp2
      refine ⟨KeepsFrom.refl _ _, fun j hj => ?_, cN, cK, cS, cO, hB⟩
      by_cases e : j = k
      · rw [e]; omega
      · exact hk j (by omega)
  case stop =>
    rintro D c k V hD ⟨⟨rfl, hk⟩, cK, cS, cO, hB⟩ hDD
    have hsV := hB.size
    gi_wp2
    have d1 := (cK.kept (grownBy_putObj' V D (.deferred none)) (fun e => by injection e; omega)).cell
    have d2 := (cS.kept (grownBy_putObj' V D (.deferred none)) (fun e => by injection e; omega)).cell
    have d3 := (cO.kept (grownBy_putObj' V D (.deferred none)) (fun e => by injection e; omega)).cell
    refine ⟨by simp, .inl ⟨_, _, rfl, run_takeDeferred hDD, ?_⟩⟩
    refine ⟨_, ?_, rfl, (hB0.trans hB).trans (belowK_b (w := w) (Nat.le_refl _) V D _ _ (by omega) hDD rfl rfl)⟩
    simp [results, Tryz.f64, go_sem, d1, d2, d3]

/-- Whether n has a class. -/
def okN (n : Int) : Bool := decide (1 ≤ n ∧ n ≤ 65536)
theorem okN_of {n : Int} (h0 : 1 ≤ n) (h1 : n ≤ 65536) : okN n = true := decide_eq_true ⟨h0, h1⟩
def placeN (n : Int) : Nat := if okN n then Cls.at' n.toNat else 0
def roundN (n : Int) : Nat := if okN n then Cls.rd n.toNat else 0
theorem placeN_of {m : Nat} (h0 : 1 ≤ m) (h1 : m ≤ 65536) : placeN m = Cls.at' m := by unfold placeN; rw [if_pos (okN_of (by omega) (by omega))]; rfl
theorem roundN_of {m : Nat} (h0 : 1 ≤ m) (h1 : m ≤ 65536) : roundN m = Cls.rd m := by unfold roundN; rw [if_pos (okN_of (by omega) (by omega))]; rfl

theorem least_any (n : Int) (i0 : -9223372036854775808 ≤ n) (i1 : n ≤ 9223372036854775807) (w : World) :
    Calls Tryz.prog 64 #[.int .i64 n] w fun e w' => e = .returned (.tuple #[.int .i64 (placeN n), .int .i64 (roundN n), .bool (okN n)]) ∧ Below w.heap.size w w' := by
  by_cases h : 1 ≤ n ∧ n ≤ 65536
  · obtain ⟨m, rfl⟩ : ∃ m : Nat, n = m := ⟨n.toNat, by omega⟩
    rw [placeN_of (by omega) (by omega), roundN_of (by omega) (by omega), okN_of h.1 h.2]
    exact least_in m (by omega) (by omega) w
  · have ho : okN n = false := decide_eq_false h
    unfold placeN roundN
    rw [ho]
    exact least_out n i0 i1 (by omega) w

set_option maxRecDepth 100000 in
theorem round_any (n : Int) (i0 : -9223372036854775808 ≤ n) (i1 : n ≤ 9223372036854775807) (w : World) :
    Calls Tryz.prog 23 #[.int .i64 n] w fun e w' => e = .returned (.tuple #[.int .i64 (roundN n), .bool (okN n)]) ∧ Below w.heap.size w w' := by
  go_enter Tryz.func23, Tryz.ntmps23
  go_wp2_with (refine (least_any _ i0 i1 _).mono ?_; rintro e x ⟨rfl, hB⟩)
  exact bodyPost_ret (v := .tuple #[.int .i64 (roundN n), .bool (okN n)]) (by simp [results, Tryz.f23, go_sem]) rfl ⟨rfl, hB⟩


end Go.Proofs.YtbjmeibcphmgbaaGreat

namespace Go.Proofs.YtbjmeibcphmgbaaGreat
open Go.RowKit

def pickOf (c n : Int) : Int := if c < 0 then (-(c + 1)) % n else c % n
theorem pick_bounds (c n : Int) (hn : 0 < n) : 0 ≤ pickOf c n ∧ pickOf c n < n := by
  unfold pickOf
  split
  · exact ⟨Int.emod_nonneg _ (by omega), Int.emod_lt_of_pos _ hn⟩
  · exact ⟨Int.emod_nonneg _ (by omega), Int.emod_lt_of_pos _ hn⟩
theorem pick_any (c n : Int) (w : World) (h0 : -9223372036854775808 ≤ c) (h1 : c ≤ 9223372036854775807) (h2 : 0 < n) (h3 : n ≤ 9223372036854775807) :
    Calls Tryz.prog 29 #[.int .i64 c, .int .i64 n] w fun e w' => e = .returned (.int .i64 (pickOf c n)) ∧ w = w' := by
  by_cases h : c < 0
  · have hv : Hid (Int.tmod (-(c + 1)) n = pickOf c n) := Lib.hid (by unfold pickOf; rw [if_pos h, Int.tmod_eq_emod_of_nonneg (by omega)])
    have hd : 0 ≤ -(c + 1) := by omega
    go_enter Tryz.func29, Tryz.ntmps29
    go_wp2
    go_ret
    refine ⟨?_, rfl⟩
    rw [← hv.out, Int.neg_tmod]
    rfl
  · have hv : Hid (c % n = pickOf c n) := Lib.hid (by unfold pickOf; rw [if_neg h])
    go_enter Tryz.func29, Tryz.ntmps29
    go_wp2
    go_ret
    exact ⟨by rw [← hv.out]; rfl, rfl⟩

/-- A number picked, under a name: from 0 on, below n. -/
theorem pick_nat (c : Int) (n : Nat) (w : World) (h0 : -9223372036854775808 ≤ c) (h1 : c ≤ 9223372036854775807) (h2 : 0 < n) (h3 : (n : Int) ≤ 9223372036854775807) :
    Calls Tryz.prog 29 #[.int .i64 c, .int .i64 n] w fun e w' => ∃ k : Nat, k < n ∧ e = .returned (.int .i64 k) ∧ w = w' := by
  have p := pick_bounds c n (by omega)
  refine (pick_any c n w h0 h1 (by omega) h3).mono ?_
  rintro e w' ⟨rfl, rfl⟩
  exact ⟨(pickOf c n).toNat, by omega, by rw [Int.toNat_of_nonneg p.1], rfl⟩

end Go.Proofs.YtbjmeibcphmgbaaGreat

namespace Go.Proofs.YtbjmeibcphmgbaaGreat
open Go.RowKit Go.Shelf

set_option linter.unusedSimpArgs false
set_option linter.unusedVariables false

/-- A space that may be: its base, size and top. -/
structure SpOk (b z t : Nat) : Prop where
  base : b ≤ 65536
  size : z ≤ 65536
  low : b ≤ t
  high : t ≤ b + z

abbrev spV (b z t : Nat) : Value := .agg #[.int .i64 b, .int .i64 z, .int .i64 t]

set_option maxHeartbeats 1000000 in
theorem nearest_ok (b z t : Nat) (h : SpOk b z t) (w : World) :
    Calls Tryz.prog 114 #[spV b z t] w fun e w' => e = .returned (spV b z t) ∧ Below w.heap.size w w' := by
  obtain ⟨h1, h2, h3, h4⟩ := h
  have m1 : ((65536 : Int) < (b : Int)) = False := by simp; omega
  have m2 : ((65536 : Int) < (z : Int)) = False := by simp; omega
  have m3 : ((t : Int) < (b : Int)) = False := by simp; omega
  have m4 : ((b : Int) + (z : Int) < (t : Int)) = False := by simp; omega
  go_enter Tryz.func114, Tryz.ntmps114
  go_wp2
  all_goals
    refine bodyPost_ret (v := spV b z t) ?_ rfl ⟨rfl, ((Below.refl _ w).alloc (Nat.le_refl _) _).alloc (by simp) _⟩
    simp [results, Tryz.f114, go_sem]
    try omega

/-- Three cells that lie in block k, behind w. -/
abbrev At3 (w x : World) (k : Nat) (v0 v1 v2 : Value) : Prop :=
  x.cell? ⟨k, 0, none⟩ = some v0 ∧ x.cell? ⟨k, 1, none⟩ = some v1 ∧ x.cell? ⟨k, 2, none⟩ = some v2 ∧ w.heap.size ≤ x.heap.size ∧ k < x.heap.size ∧ Below w.heap.size w x
/-- A space that lies in block k, behind w. -/
abbrev SpAt (w x : World) (k b z t : Nat) : Prop := At3 w x k (.int .i64 b) (.int .i64 z) (.int .i64 t)

theorem keepSp {w x y : World} {k : Nat} {v0 v1 v2 : Value} (h : At3 w x k v0 v1 v2) (hb : Below x.heap.size x y) : At3 w y k v0 v1 v2 :=
  ⟨(hb.cell (p := ⟨k, 0, none⟩) h.2.2.2.2.1).trans h.1, (hb.cell (p := ⟨k, 1, none⟩) h.2.2.2.2.1).trans h.2.1, (hb.cell (p := ⟨k, 2, none⟩) h.2.2.2.2.1).trans h.2.2.1,
    Nat.le_trans h.2.2.2.1 hb.size, Nat.lt_of_lt_of_le h.2.2.2.2.1 hb.size, h.2.2.2.2.2.trans (hb.mono h.2.2.2.1)⟩
theorem newSp (w : World) (b z t : Nat) (ty : TypeId) : SpAt w (w.alloc (.cells #[.int .i64 b, .int .i64 z, .int .i64 t] ty)) w.heap.size b z t :=
  ⟨by simp, by simp, by simp, by simp, by simp, (Below.refl _ _).alloc (Nat.le_refl _) _⟩

set_option maxHeartbeats 1000000 in
theorem right_ok (b z t : Nat) (h : SpOk b z t) (w : World) :
    Calls Tryz.prog 81 #[spV b z t] w fun e w' => e = .returned (.bool true) ∧ Below w.heap.size w w' := by
  go_enter Tryz.func81, Tryz.ntmps81
  go_wp2
  have h0 := newSp w b z t 76
  go_region_held3 (fun x => SpAt w x w.heap.size b z t) (first | exact ⟨h0.1, h0.2.1, h0.2.2.1, h0.2.2.2.1, h0.2.2.2.2.1, h0.2.2.2.2.2.drew⟩ | exact keepSp (by assumption) hb2)
    (first | (go_at_call 114; refine (nearest_ok _ _ _ h _).mono ?_; rintro e w2 ⟨rfl, hb2⟩))
  go_wp2
  go_ret
  exact ⟨rfl, (‹SpAt w _ _ _ _ _›).2.2.2.2.2⟩

theorem used_ok (b z t : Nat) (h : SpOk b z t) (w : World) :
    Calls Tryz.prog 48 #[spV b z t] w fun e w' => e = .returned (.int .i64 ((t - b : Nat) : Int)) ∧ Below w.heap.size w w' := by
  have h3 := h.low
  have h1 := h.base
  have h2 := h.high
  have h4 := h.size
  go_enter Tryz.func48, Tryz.ntmps48
  go_wp2_with fail
  refine (right_ok _ _ _ h _).mono ?_
  rintro e x ⟨rfl, hb⟩
  obtain ⟨c0, c1, c2, hs, hk, hB⟩ := keepSp (newSp w b z t 76) (by simpa using hb)
  clear hb
  go_wp2
  go_ret
  exact ⟨by rw [show ((t - b : Nat) : Int) = (t : Int) - (b : Int) from by omega]; rfl, hB⟩

theorem left_ok (b z t : Nat) (h : SpOk b z t) (w : World) :
    Calls Tryz.prog 65 #[spV b z t] w fun e w' => e = .returned (.int .i64 ((b + z - t : Nat) : Int)) ∧ Below w.heap.size w w' := by
  have h3 := h.low
  have h1 := h.base
  have h2 := h.high
  have h4 := h.size
  go_enter Tryz.func65, Tryz.ntmps65
  go_wp2_with fail
  refine (right_ok _ _ _ h _).mono ?_
  rintro e x ⟨rfl, hb⟩
  obtain ⟨c0, c1, c2, hs, hk, hB⟩ := keepSp (newSp w b z t 76) (by simpa using hb)
  clear hb
  have hu := used_ok b z t h
  obtain ⟨u, e⟩ : ∃ u, t - b = u := ⟨_, rfl⟩
  rw [e] at hu
  have hr : Hid (((b + z - t : Nat) : Int) = (z : Int) - (u : Int)) := Lib.hid (by omega)
  have u1 : u ≤ z := by omega
  clear e
  have hw : IntKind.i64.wrap ((z : Int) - (u : Int)) = (z : Int) - (u : Int) := IntWalk.i64_in _ (by omega)
  go_wp2_with fail
  go_region_held3 (fun x => SpAt w x w.heap.size b z t) (first | exact ⟨c0, c1, c2, hs, hk, hB.drew⟩ | exact keepSp (by assumption) hb2)
    (first | (go_at_call 48; refine (hu _).mono ?_; rintro e w2 ⟨rfl, hb2⟩))
  go_wp2
  go_ret
  exact ⟨by rw [hr.out]; rfl, (‹SpAt w _ _ _ _ _›).2.2.2.2.2⟩


/-- What a block of three cells gives a walk. -/
theorem blk3 {x : World} {k : Nat} {v0 v1 v2 : Value} {ty : TypeId} (h : BlkIs x k #[v0, v1, v2] ty) :
    (x.cell? ⟨k, 0, none⟩ = some v0 ∧ x.cell? ⟨k, 1, none⟩ = some v1 ∧ x.cell? ⟨k, 2, none⟩ = some v2) ∧ x.frozen? ⟨k, 0, none⟩ = false ∧ x.frozen? ⟨k, 1, none⟩ = false ∧ x.frozen? ⟨k, 2, none⟩ = false :=
  ⟨⟨h.cell 0, h.cell 1, h.cell 2⟩, h.free 0, h.free 1, h.free 2⟩
theorem At3.of {x : World} {k : Nat} {v0 v1 v2 : Value} {ty : TypeId} (h : BlkIs x k #[v0, v1, v2] ty) : At3 x x k v0 v1 v2 :=
  ⟨h.cell 0, h.cell 1, h.cell 2, Nat.le_refl _, h.lt, Below.refl _ _⟩

/-- Two boxes of a call, one behind the other. -/
def twoBoxes (w : World) (a b : Array Value) : World := (w.alloc (.cells a 76)).alloc (.cells b 76)
structure TwoAt (w x : World) (a b : Array Value) : Prop where
  k1 : BlkIs x w.heap.size a 76
  k2 : BlkIs x (w.heap.size + 1) b 76
  below : Below w.heap.size w x
theorem TwoAt.new (w : World) (a b : Array Value) : TwoAt w ((w.alloc (.cells a 76)).alloc (.cells b 76)) a b :=
  ⟨(BlkIs.new w a _).alloc _, by have h := BlkIs.new (w.alloc (.cells a 76)) b 76; rwa [World.size_alloc] at h, ((Below.refl _ w).alloc (Nat.le_refl _) _).alloc (by simp) _⟩
theorem TwoAt.keep {w x y : World} {a b : Array Value} (h : TwoAt w x a b) (hb : Below x.heap.size x y) : TwoAt w y a b := by
  have s1 := h.k1.lt
  exact ⟨h.k1.below hb s1, h.k2.below hb h.k2.lt, h.below.trans (hb.mono (by omega))⟩
theorem TwoAt.drew {w x : World} {a b : Array Value} (h : TwoAt w x a b) : TwoAt w x.drew a b := ⟨h.k1, h.k2, h.below.drew⟩
theorem TwoAt.set1 {w x : World} {a b : Array Value} (h : TwoAt w x a b) (i : Nat) (u : Value) : TwoAt w (x.setCell ⟨w.heap.size, i, none⟩ u) (a.setIfInBounds i u) b :=
  ⟨h.k1.set i u, h.k2.far (by simp) u, h.below.setCell (by simp) u⟩
theorem TwoAt.set2 {w x : World} {a b : Array Value} (h : TwoAt w x a b) (i : Nat) (u : Value) : TwoAt w (x.setCell ⟨w.heap.size + 1, i, none⟩ u) a (b.setIfInBounds i u) :=
  ⟨h.k1.far (by simp) u, h.k2.set i u, h.below.setCell (by simp) u⟩
theorem TwoAt.facts {w x : World} {a0 a1 a2 b0 b1 b2 : Value} (h : TwoAt w x #[a0, a1, a2] #[b0, b1, b2]) :
    (x.cell? ⟨w.heap.size, 0, none⟩ = some a0 ∧ x.cell? ⟨w.heap.size, 1, none⟩ = some a1 ∧ x.cell? ⟨w.heap.size, 2, none⟩ = some a2 ∧
    x.cell? ⟨w.heap.size + 1, 0, none⟩ = some b0 ∧ x.cell? ⟨w.heap.size + 1, 1, none⟩ = some b1 ∧ x.cell? ⟨w.heap.size + 1, 2, none⟩ = some b2) ∧
    x.frozen? ⟨w.heap.size, 0, none⟩ = false ∧ x.frozen? ⟨w.heap.size, 1, none⟩ = false ∧ x.frozen? ⟨w.heap.size, 2, none⟩ = false ∧
    x.frozen? ⟨w.heap.size + 1, 0, none⟩ = false ∧ x.frozen? ⟨w.heap.size + 1, 1, none⟩ = false ∧ x.frozen? ⟨w.heap.size + 1, 2, none⟩ = false :=
  ⟨⟨h.k1.cell 0, h.k1.cell 1, h.k1.cell 2, h.k2.cell 0, h.k2.cell 1, h.k2.cell 2⟩, h.k1.free 0, h.k1.free 1, h.k1.free 2, h.k2.free 0, h.k2.free 1, h.k2.free 2⟩

set_option maxHeartbeats 1000000 in
theorem empty_ok (b z t : Nat) (h : SpOk b z t) (w : World) :
    Calls Tryz.prog 60 #[spV b z t] w fun e w' => e = .returned (spV b z b) ∧ Below w.heap.size w w' := by
  go_enter Tryz.func60, Tryz.ntmps60
  go_wp2_with fail
  refine (right_ok _ _ _ h _).mono ?_
  rintro e x ⟨rfl, hb⟩
  have hT := (TwoAt.new w #[.int .i64 b, .int .i64 z, .int .i64 t] #[.int .i64 0, .int .i64 0, .int .i64 0]).keep hb
  clear hb
  obtain ⟨⟨c0, c1, c2, d0, d1, d2⟩, f0, f1, f2, g0, g1, g2⟩ := hT.facts
  go_wp2
  have hE := (((hT.set1 2 (.int .i64 b)).set2 0 (.int .i64 b)).set2 1 (.int .i64 z)).set2 2 (.int .i64 b)
  obtain ⟨⟨_, _, _, e0, e1, e2⟩, _⟩ := hE.facts
  refine bodyPost_ret (v := spV b z b) ?_ rfl ⟨rfl, hE.below⟩
  simp [results, Tryz.f60, go_sem, e0, e1, e2]

set_option maxHeartbeats 1000000 in
theorem make_ok (b z : Nat) (h : SpOk b z b) (w : World) :
    Calls Tryz.prog 80 #[.int .i64 b, .int .i64 z] w fun e w' => e = .returned (.tuple #[spV b z b, .bool true]) ∧ Below w.heap.size w w' := by
  go_enter Tryz.func80, Tryz.ntmps80
  go_wp2_with fail
  refine (right_ok _ _ _ h _).mono ?_
  rintro e x ⟨rfl, hb⟩
  have hT := (TwoAt.new w #[.int .i64 0, .int .i64 0, .int .i64 0] #[.int .i64 b, .int .i64 z, .int .i64 b]).keep hb
  clear hb
  obtain ⟨⟨c0, c1, c2, d0, d1, d2⟩, f0, f1, f2, g0, g1, g2⟩ := hT.facts
  go_wp2
  have hE := (((hT.set1 0 (.int .i64 b)).set1 1 (.int .i64 z)).set1 2 (.int .i64 b))
  obtain ⟨⟨e0, e1, e2, _⟩, _⟩ := hE.facts
  refine bodyPost_ret (v := .tuple #[spV b z b, .bool true]) ?_ rfl ⟨rfl, hE.below⟩
  simp [results, Tryz.f80, go_sem, e0, e1, e2]

set_option maxHeartbeats 2000000 in
theorem take_yes (b z t n : Nat) (h : SpOk b z t) (n0 : 1 ≤ n) (n1 : n ≤ 65536) (hr : t + Cls.rd n ≤ b + z) (w : World) :
    Calls Tryz.prog 67 #[spV b z t, .int .i64 n] w fun e w' => e = .returned (.tuple #[spV b z (t + Cls.rd n), .int .i64 t, .bool true]) ∧ Below w.heap.size w w' := by
  have h3 := h.low
  have h1 := h.base
  have h2 := h.high
  have h4 := h.size
  have hR := round_any (n : Int) (by omega) (by omega)
  rw [roundN_of n0 n1, okN_of (by omega) (by omega)] at hR
  have hL := left_ok b z t h
  obtain ⟨l, hl⟩ : ∃ l, b + z - t = l := ⟨_, rfl⟩
  rw [hl] at hL
  generalize Cls.rd n = r at *
  have hlt : ((l : Int) < (r : Int)) = False := by simp; omega
  clear hl
  have hw : IntKind.i64.wrap ((t : Int) + (r : Int)) = (t : Int) + (r : Int) := IntWalk.i64_in _ (by omega)
  go_enter Tryz.func67, Tryz.ntmps67
  go_wp2_with fail
  refine (hR _).mono ?_
  rintro e x ⟨rfl, hb⟩
  have hT := (TwoAt.new w #[.int .i64 b, .int .i64 z, .int .i64 t] #[.int .i64 0, .int .i64 0, .int .i64 0]).keep hb
  clear hb
  obtain ⟨⟨c0, c1, c2, d0, d1, d2⟩, f0, f1, f2, g0, g1, g2⟩ := hT.facts
  go_wp2_with fail
  refine (hL _).mono ?_
  rintro e y ⟨rfl, hb⟩
  replace hT := hT.keep hb
  clear hb c0 c1 c2 d0 d1 d2 f0 f1 f2 g0 g1 g2
  obtain ⟨⟨c0, c1, c2, d0, d1, d2⟩, f0, f1, f2, g0, g1, g2⟩ := hT.facts
  go_wp2
  have hE := (((hT.set1 2 (.int .i64 ((t : Int) + r))).set2 0 (.int .i64 b)).set2 1 (.int .i64 z)).set2 2 (.int .i64 ((t : Int) + r))
  obtain ⟨⟨_, _, _, e0, e1, e2⟩, _⟩ := hE.facts
  refine bodyPost_ret (v := .tuple #[spV b z (t + r), .int .i64 t, .bool true]) ?_ rfl ⟨rfl, hE.below⟩
  simp [results, Tryz.f67, go_sem, e0, e1, e2]



end Go.Proofs.YtbjmeibcphmgbaaGreat

namespace Go.Proofs.YtbjmeibcphmgbaaGreat
open Go.ChangeShapes Go.WideShapes Go.ChangeAt Go.RowKit

set_option linter.unusedSimpArgs false
set_option linter.unusedVariables false

theorem not_gone {p d : Nat} {wk fn fr : Bool} : isGone (headN p d wk fn fr) = false := by
  unfold isGone
  have h : ∀ m : Nat, goneN m % 2 = 0 := fun m => by unfold goneN; split <;> omega
  have h1 : headN p d wk fn fr % 2 = 1 := by unfold headN; omega
  have h2 := h (headN p d wk fn fr / 4)
  rw [decide_eq_false (show ¬ goneN (headN p d wk fn fr / 4) = headN p d wk fn fr from fun e => by rw [e] at h2; omega), Bool.and_false]
theorem is_gone {n : Nat} (h0 : 1 ≤ n) (h1 : n ≤ 131072) : isGone (2 + n * 4) = true ∧ (2 + n * 4) / 4 = n := by
  have e : (2 + n * 4) / 4 = n := by omega
  have m : mayGo n = true := decide_eq_true ⟨h0, h1⟩
  refine ⟨?_, e⟩
  unfold isGone
  rw [e, m, decide_eq_true (show goneN n = 2 + n * 4 by unfold goneN; rw [if_pos m])]
  rfl

/-- A block that is known whole stays so, as long as it is not the arena's. -/
theorem BlkIs.more {w x : World} {k n : Nat} {cs : Array Value} {ty : TypeId} (h : BlkIs w k cs ty) (g : Below n w x) (hn : w.heap.size ≤ n) : BlkIs x k cs ty := h.below g (Nat.lt_of_lt_of_le h.lt hn)
theorem two_new (w : World) (a c : Array Value) (ta tc : TypeId) :
    BlkIs ((w.alloc (.cells a ta)).alloc (.cells c tc)) w.heap.size a ta ∧ BlkIs ((w.alloc (.cells a ta)).alloc (.cells c tc)) (w.heap.size + 1) c tc ∧ Below w.heap.size w ((w.alloc (.cells a ta)).alloc (.cells c tc)) := by
  have s1 : (w.alloc (.cells a ta)).heap.size = w.heap.size + 1 := by simp
  have h1 := BlkIs.new (w.alloc (.cells a ta)) c tc
  rw [s1] at h1
  exact ⟨(BlkIs.new w a ta).alloc _, h1, ((Below.refl _ w).alloc (Nat.le_refl _) _).alloc (by omega) _⟩

section
variable {P b : Nat} {l : List Int} {p d : Nat} {wk fn fr : Bool}

theorem at_obj (a : Nat) (w : World) (h : ArenaAt 146 w P b l) (o : ObjIs l a p d wk fn fr) :
    Calls Tryz.prog 83 #[.pointer (some ⟨P, 0, none⟩), .int .i64 a] w fun e w' => e = .returned (.tuple #[.int .i64 0, .bool false]) ∧ Below w.heap.size w w' := by
  have hlo := headN_lt (wk := wk) (fn := fn) (fr := fr) o.ptrs o.data
  have HL := load_there a w h (by have := o.room; omega)
  rw [o.head] at HL
  have HW := where_any (headN p d wk fn fr) (by omega)
  rw [not_gone] at HW
  generalize headN p d wk fn fr = v at *
  clear h o
  go_enter Tryz.func83, Tryz.ntmps83
  go_wp2_with fail
  refine HL.mono ?_
  rintro e x ⟨rfl, rfl⟩
  go_wp2_with fail
  refine (HW _).mono ?_
  rintro e y ⟨rfl, hb⟩
  go_wp2
  go_ret2
  exact ⟨rfl, hb⟩

theorem at_gone (a n : Nat) (w : World) (h : ArenaAt 146 w P b l) (ha : a < l.length) (h0 : 1 ≤ n) (h1 : n ≤ 131072) (hg : l.getD a 0 = (2 + n * 4 : Nat)) :
    Calls Tryz.prog 83 #[.pointer (some ⟨P, 0, none⟩), .int .i64 a] w fun e w' => e = .returned (.tuple #[.int .i64 n, .bool true]) ∧ Below w.heap.size w w' := by
  have HL := load_there a w h ha
  rw [hg] at HL
  have HW := where_any (2 + n * 4) (by omega)
  rw [(is_gone h0 h1).1, (is_gone h0 h1).2, if_pos rfl] at HW
  generalize 2 + n * 4 = v at *
  clear h
  go_enter Tryz.func83, Tryz.ntmps83
  go_wp2_with fail
  refine HL.mono ?_
  rintro e x ⟨rfl, rfl⟩
  go_wp2_with fail
  refine (HW _).mono ?_
  rintro e y ⟨rfl, hb⟩
  go_wp2
  go_ret2
  exact ⟨rfl, hb⟩

theorem size_at (a : Nat) (w : World) (h : ArenaAt 146 w P b l) (o : ObjIs l a p d wk fn fr) :
    Calls Tryz.prog 84 #[.pointer (some ⟨P, 0, none⟩), .int .i64 a] w fun e w' => e = .returned (.tuple #[.int .i64 (3 + p + d : Nat), .int .i64 0]) ∧ Below w.heap.size w w' := by
  have HS := shape_at a w h o
  have HZ := size_yes p d wk fn o.right o.ptrs o.data
  have e3 : (3 + (p : Int) + (d : Int)) = ((3 + p + d : Nat) : Int) := by omega
  rw [e3] at HZ
  generalize 3 + p + d = s at *
  clear h o e3
  go_enter Tryz.func84, Tryz.ntmps84
  go_wp2_with fail
  refine HS.mono ?_
  rintro e x ⟨rfl, hb⟩
  have hB := hb.alloc hb.size (.cells #[.int .i64 p, .int .i64 d, .bool wk, .bool fn] 45)
  go_wp2_with fail
  refine (HZ _).mono ?_
  rintro e y ⟨rfl, hb2⟩
  go_wp2
  go_ret2
  exact ⟨rfl, hB.trans (hb2.mono hB.size)⟩

/-- What Copy lays. -/
def copyL (l : List Int) (a t n : Nat) : List Int := (layL l t (fun j => l.getD (a + j) 0) n).set a ((2 + t * 4 : Nat) : Int)
theorem copyL_length (l : List Int) (a t n : Nat) : (copyL l a t n).length = l.length := by unfold copyL; simp
theorem copyL_at {l : List Int} {a t n j : Nat} (h : j < l.length) : (copyL l a t n).getD j 0 = if j = a then ((2 + t * 4 : Nat) : Int) else if t ≤ j ∧ j < t + n then l.getD (a + (j - t)) 0 else l.getD j 0 := by
  unfold copyL
  rw [set_at' (by rw [layL_length]; exact h), layL_at _ _ _ _ _ h]

set_option maxHeartbeats 2000000 in
theorem copy_yes (a sb sz st : Nat) (w : World) (h : ArenaAt 146 w P b l) (o : ObjIs l a p d wk fn fr) (hs : SpOk sb sz st) (h1 : 1 ≤ st) (hr : st + Cls.rd (3 + p + d) ≤ sb + sz) (hl : st + (3 + p + d) ≤ l.length) :
    Calls Tryz.prog 51 #[.pointer (some ⟨P, 0, none⟩), .int .i64 a, spV sb sz st] w fun e w' => e = .returned (.tuple #[spV sb sz (st + Cls.rd (3 + p + d)), .int .i64 st, .int .i64 0]) ∧
      ArenaAt 146 w' P b (copyL l a st (3 + p + d)) ∧ Chg (· = b) w w' := by
  have hlt := h.lt
  have hll := h.len
  have o1 := o.ptrs
  have o2 := o.data
  have o3 := o.room
  have hst : st ≤ 65536 := by omega
  have HT := take_yes sb sz st (3 + p + d) hs (by omega) (by omega) hr
  have HG := gone_any st (by omega)
  rw [show goneN st = 2 + st * 4 from by simp [goneN, mayGo]; omega, show mayGo st = true from decide_eq_true ⟨h1, by omega⟩] at HG
  have HM := fun x (hx : ArenaAt 146 x P b l) => move_yes a st (3 + p + d) x hx (by omega) hl (by omega)
  have HA := fun x (hx : ArenaAt 146 x P b l) => at_obj a x hx o
  have HS := fun x (hx : ArenaAt 146 x P b l) => size_at a x hx o
  unfold copyL
  have hml : (layL l st (fun j => l.getD (a + j) 0) (3 + p + d)).length = l.length := layL_length ..
  obtain ⟨m, hM⟩ : ∃ m, layL l st (fun j => l.getD (a + j) 0) (3 + p + d) = m := ⟨_, rfl⟩
  simp only [hM] at HM hml ⊢
  obtain ⟨u, hu⟩ : ∃ u, st + Cls.rd (3 + p + d) = u := ⟨_, rfl⟩
  rw [hu] at HT ⊢
  have hax : a < m.length := by omega
  generalize 3 + p + d = s at *
  have hv : (0 : Int) ≤ ((2 + st * 4 : Nat) : Int) ∧ ((2 + st * 4 : Nat) : Int) ≤ 18446744073709551615 := by omega
  generalize 2 + st * 4 = v at *
  clear o hM hu hr hs o1 o2 o3 hl
  obtain ⟨k1, k2, hB⟩ := two_new w #[.int .i64 sb, .int .i64 sz, .int .i64 st] #[.int .i64 0, .int .i64 0, .int .i64 0] 76 76
  have nb1 : ¬ w.heap.size = b := by omega
  have nb2 : ¬ w.heap.size + 1 = b := by omega
  go_enter Tryz.func51, Tryz.ntmps51
  go_wp2_with fail
  generalize (w.alloc (.cells #[.int .i64 sb, .int .i64 sz, .int .i64 st] 76)).alloc (.cells #[.int .i64 0, .int .i64 0, .int .i64 0] 76) = x at *
  refine (HA _ (h.below hB hlt.1 hlt.2)).mono ?_
  rintro e y ⟨rfl, hb⟩
  replace k1 := k1.more hb (Nat.le_refl _)
  replace k2 := k2.more hb (Nat.le_refl _)
  replace hB := hB.trans (hb.mono hB.size)
  clear hb x
  go_wp2_with fail
  refine (HS _ (h.below hB hlt.1 hlt.2)).mono ?_
  rintro e x ⟨rfl, hb⟩
  replace k1 := k1.more hb (Nat.le_refl _)
  replace k2 := k2.more hb (Nat.le_refl _)
  replace hB := hB.trans (hb.mono hB.size)
  clear hb y
  obtain ⟨⟨c0, c1, c2⟩, f0, f1, f2⟩ := blk3 k1
  go_wp2_with fail
  clear c0 c1 c2 f0 f1 f2
  refine (HT _).mono ?_
  rintro e y ⟨rfl, hb⟩
  replace k1 := k1.more hb (Nat.le_refl _)
  replace k2 := k2.more hb (Nat.le_refl _)
  replace hB := hB.trans (hb.mono hB.size)
  clear hb x
  have k3 := BlkIs.new y #[.int .i64 sb, .int .i64 sz, .int .i64 u] 76
  have n3 : ¬ w.heap.size + 1 = y.heap.size := by have := k2.lt; omega
  have nb3 : ¬ y.heap.size = b := by have := k2.lt; omega
  replace k1 := k1.alloc (.cells #[.int .i64 sb, .int .i64 sz, .int .i64 u] 76)
  replace k2 := k2.alloc (.cells #[.int .i64 sb, .int .i64 sz, .int .i64 u] 76)
  replace hB := hB.alloc hB.size (.cells #[.int .i64 sb, .int .i64 sz, .int .i64 u] 76)
  have n0 : ((st : Int) == 0) = false := by simp; omega
  go_wp2_with fail
  generalize y.heap.size = k at *
  generalize y.alloc (.cells #[.int .i64 sb, .int .i64 sz, .int .i64 u] 76) = x at *
  refine (HM _ (h.below hB hlt.1 hlt.2)).mono ?_
  rintro e y2 ⟨rfl, hA, hc⟩
  replace k1 := k1.chg hc nb1
  replace k2 := k2.chg hc nb2
  replace k3 := k3.chg hc nb3
  have hC := (Chg.of_below (S := (· = b)) hB (Nat.le_refl _)).trans hc
  clear hc hB h HM HA HS HT x
  go_wp2_with fail
  refine (HG _).mono ?_
  rintro e y3 ⟨rfl, hb⟩
  replace k1 := k1.more hb (Nat.le_refl _)
  replace k2 := k2.more hb (Nat.le_refl _)
  replace k3 := k3.more hb (Nat.le_refl _)
  replace hA := hA.below hb hA.lt.1 hA.lt.2
  replace hC := hC.trans (Chg.of_below hb (Nat.le_refl _))
  clear hb y2 HG
  have HU := store_there a (v : Int) _ hA hax hv
  go_wp2_with fail
  refine HU.mono ?_
  rintro e y4 ⟨rfl, hA2, hc⟩
  replace k2 := k2.chg hc nb2
  replace k3 := k3.chg hc nb3
  replace hC := hC.trans hc
  clear hc HU hA k1
  obtain ⟨⟨c0, c1, c2⟩, f0, f1, f2⟩ := blk3 k2
  obtain ⟨⟨d0, d1, d2⟩, g0, g1, g2⟩ := blk3 k3
  have l2 := k2.lt
  go_wp2
  have hE := ((k2.set 0 (.int .i64 sb)).set 1 (.int .i64 sz)).set 2 (.int .i64 u)
  obtain ⟨⟨e0, e1, e2⟩, _⟩ := blk3 hE
  refine bodyPost_ret (v := .tuple #[spV sb sz u, .int .i64 st, .int .i64 0]) ?_ rfl ⟨rfl, ?_, ?_⟩
  · simp [results, Tryz.f51, go_sem, e0, e1, e2]
  · exact hA2.chg (((Chg.refl (· = w.heap.size + 1) y4).setCell (p := ⟨w.heap.size + 1, 0, none⟩) (.inl rfl) (.int .i64 sb)).setCell (p := ⟨w.heap.size + 1, 1, none⟩) (.inl rfl) (.int .i64 sz) |>.setCell (p := ⟨w.heap.size + 1, 2, none⟩) (.inl rfl) (.int .i64 u)) (by omega) (by omega)
  · exact ((hC.setCell (p := ⟨w.heap.size + 1, 0, none⟩) (.inr (by simp)) (.int .i64 sb)).setCell (p := ⟨w.heap.size + 1, 1, none⟩) (.inr (by simp)) (.int .i64 sz)).setCell (p := ⟨w.heap.size + 1, 2, none⟩) (.inr (by simp)) (.int .i64 u)


end

end Go.Proofs.YtbjmeibcphmgbaaGreat

namespace Go.Proofs.YtbjmeibcphmgbaaGreat
open Go.RowKit

/-- An object's shape, and whether it is freed. -/
structure Ob where
  (p d : Nat)
  (wk fn fr : Bool)
def Ob.n (o : Ob) : Nat := 3 + o.p + o.d
def off (os : Nat → Ob) : Nat → Nat
  | 0 => 0
  | k + 1 => off os k + Cls.rd (os k).n
/-- At these places there are objects, the first m. -/
def ObsAt (l : List Int) (B : Nat) (os : Nat → Ob) (m : Nat) : Prop := ∀ k, k < m → ObjIs l (B + off os k) (os k).p (os k).d (os k).wk (os k).fn (os k).fr
def plc (os : Nat → Ob) (B m : Nat) : List Nat := (List.range m).map fun k => B + off os k

section
variable {l : List Int} {B : Nat} {os : Nat → Ob} {m : Nat}
theorem rd_pos (n : Nat) : 4 ≤ Cls.rd n := Cls.sz_pos _
/-- An object is one, whatever stands elsewhere. -/
theorem ObjIs.same {l l' : List Int} {a p d : Nat} {wk fn fr : Bool} (h : ObjIs l a p d wk fn fr) (hl : l'.length = l.length) (hh : l'.getD a 0 = l.getD a 0) : ObjIs l' a p d wk fn fr :=
  ⟨h.right, h.ptrs, h.data, by rw [hl]; exact h.room, by rw [hh]; exact h.head⟩
theorem ObsAt.same {l' : List Int} (h : ObsAt l B os m) (hl : l'.length = l.length) (hh : ∀ k, k < m → l'.getD (B + off os k) 0 = l.getD (B + off os k) 0) : ObsAt l' B os m :=
  fun k hk => (h k hk).same hl (hh k hk)
end

end Go.Proofs.YtbjmeibcphmgbaaGreat

namespace Go.Proofs.YtbjmeibcphmgbaaGreat
open Go.RowKit

/-- What a round of a loop may not touch: what lay below n₁, but for S. -/
def KpB (n₁ : Nat) (S : Nat → Prop) (A B : World) : Prop := A.heap.size ≤ B.heap.size ∧ ∀ b, b < n₁ → ¬ S b → B.heap[b]? = A.heap[b]?
section
variable {n₁ : Nat} {S : Nat → Prop} {A B C : World}
theorem KpB.refl (n₁ : Nat) (S : Nat → Prop) (A : World) : KpB n₁ S A A := ⟨Nat.le_refl _, fun _ _ _ => rfl⟩
theorem KpB.trans (h : KpB n₁ S A B) (k : KpB n₁ S B C) : KpB n₁ S A C := ⟨Nat.le_trans h.1 k.1, fun b hb hs => (k.2 b hb hs).trans (h.2 b hb hs)⟩
theorem KpB.setCell (A : World) {p : Addr} (hp : S p.block) (u : Value) : KpB n₁ S A (A.setCell p u) :=
  ⟨by simp [World.setCell], fun b _ hs => Below.heap_setCell _ _ _ _ fun e => hs (e ▸ hp)⟩
theorem KpB.putObj (W : World) (l : Nat) (o : Obj) (hl : n₁ ≤ l) : KpB n₁ S W (W.putObj l o) :=
  ⟨by simp [World.putObj], fun b hb _ => World.putObj_heap_other (by omega)⟩
theorem KpB.of_below (h : Below n₁ A B) : KpB n₁ S A B := ⟨h.size, fun b hb _ => h.block b hb⟩
theorem KpB.cell (h : KpB n₁ S A B) {p : Addr} (hp : p.block < n₁) (hs : ¬ S p.block) : B.cell? p = A.cell? p := World.cell?_of_block (h.2 p.block hp hs)
end

theorem ownFrom_pure {β : Type} {B : Nat} (P : β → Prop) : OwnFrom B (fun s (_ : World) => P s) := fun _ _ _ _ h _ _ => h

end Go.Proofs.YtbjmeibcphmgbaaGreat

namespace Go.Proofs.YtbjmeibcphmgbaaGreat
open Go.RowKit

theorem own_cell {w : World} {base n : Nat} {e : TypeId} {v : Value} {k : IntKind} {l : List Int} (h : w.ownsRow base e 1 v n (l.map (Value.int k))) (hn : 0 < n) :
    ∃ g cap, v = .slice (some ⟨g, 0, none⟩) n cap ∧ base ≤ g ∧ g < w.heap.size ∧ n ≤ cap ∧ cap ≤ maxLen ∧ l.length = n ∧ ∀ j, j < n → w.cell? ⟨g, j, none⟩ = some (.int k (l.getD j 0)) := by
  have hl : l.length = n := by simpa using h.1
  have hcells := fun g => h.cells (g := g)
  rcases h.2 with ⟨rfl, h0⟩ | ⟨g, cap, cur, rfl, hb, hg, hnc, hcm, _⟩
  · omega
  · refine ⟨g, cap, rfl, hb, (Array.getElem?_eq_some_iff.1 hg).1, hnc, hcm, hl, fun j hj => ?_⟩
    have hc := hcells g rfl j (.int k (l.getD j 0)) (by simp [List.getD, show j < l.length from by omega])
    by_cases h0 : j = 0
    · subst h0; simpa [Addr.add] using hc
    · simpa [Addr.add, h0] using hc


theorem own_chg {w w' : World} {base n size : Nat} {e : TypeId} {v : Value} {xs : List Value} {S : Nat → Prop} (h : w.ownsRow base e size v n xs) (hg : Chg S w w') (hs : ∀ k, base ≤ k → ¬ S k) : w'.ownsRow base e size v n xs := by
  refine ⟨h.1, h.2.imp id ?_⟩
  rintro ⟨g, cap, cur, rfl, hb, hh, r⟩
  exact ⟨g, cap, cur, rfl, hb, (hg.block g (Array.getElem?_eq_some_iff.1 hh).1 (hs g hb)).trans hh, r⟩


end Go.Proofs.YtbjmeibcphmgbaaGreat

namespace Go.Proofs.YtbjmeibcphmgbaaGreat
open Go.RowKit Go.Shelf

set_option linter.unusedSimpArgs false
set_option linter.unusedVariables false
attribute [local go_sem] Oper.semAt_some


abbrev encPlace (x : Nat) : Array Value := #[.int .i64 (x : Int)]





theorem infoInt : (Tryz.prog.info? 3).map (fun i => (i.zero, i.size, i.bytes)) = some (some (.int .i64 0), 1, 8) := by kernel_rfl
def valsN (l : List Nat) : List Value := l.map fun x : Nat => Value.int .i64 (x : Int)


end Go.Proofs.YtbjmeibcphmgbaaGreat

namespace Go.Proofs.YtbjmeibcphmgbaaGreat
open Go.ChangeShapes Go.WideShapes Go.ChangeAt Go.RowKit

set_option linter.unusedSimpArgs false
set_option linter.unusedVariables false

def pick6Of (c n : Int) : Int := if c < 0 then (-(c + 1)) % n else c % n
theorem pick6_bounds (c n : Int) (hn : 0 < n) : 0 ≤ pick6Of c n ∧ pick6Of c n < n := by
  unfold pick6Of
  split
  · exact ⟨Int.emod_nonneg _ (by omega), Int.emod_lt_of_pos _ hn⟩
  · exact ⟨Int.emod_nonneg _ (by omega), Int.emod_lt_of_pos _ hn⟩
theorem pick6_any (c n : Int) (w : World) (h0 : -9223372036854775808 ≤ c) (h1 : c ≤ 9223372036854775807) (h2 : 0 < n) (h3 : n ≤ 9223372036854775807) :
    Calls Tryz.prog 66 #[.int .i64 c, .int .i64 n] w fun e w' => e = .returned (.int .i64 (pick6Of c n)) ∧ w = w' := by
  by_cases h : c < 0
  · have hv : Hid (Int.tmod (-(c + 1)) n = pick6Of c n) := Lib.hid (by unfold pick6Of; rw [if_pos h, Int.tmod_eq_emod_of_nonneg (by omega)])
    have hd : 0 ≤ -(c + 1) := by omega
    go_enter Tryz.func66, Tryz.ntmps66
    go_wp2
    go_ret
    refine ⟨?_, rfl⟩
    rw [← hv.out, Int.neg_tmod]
    rfl
  · have hv : Hid (c % n = pick6Of c n) := Lib.hid (by unfold pick6Of; rw [if_neg h])
    go_enter Tryz.func66, Tryz.ntmps66
    go_wp2
    go_ret
    exact ⟨by rw [← hv.out]; rfl, rfl⟩

theorem sh_of {p d : Nat} {fn : Bool} (hp : p ≤ 8) (hd : d ≤ 8) : shB p d false fn = true := by
  unfold shB cnt
  simp
  omega

/-- The shape that these raw numbers speak of. -/
structure FitIs (a0 a1 a2 : Int) (p d : Nat) (wk fn : Bool) : Prop where
  right : shB p d wk fn = true
  ptrs : p ≤ 8
  data : d ≤ 8
  tells : ∀ w, Calls Tryz.prog 25 #[.int .i64 a0, .int .i64 a1, .int .i64 a2] w fun e w' => e = .returned (shV p d wk fn) ∧ Below w.heap.size w w'

theorem pick6_det (c : Int) (n : Nat) (h0 : -9223372036854775808 ≤ c) (h1 : c ≤ 9223372036854775807) (h2 : 0 < n) (h3 : (n : Int) ≤ 9223372036854775807) :
    ∃ k : Nat, k < n ∧ ∀ w, Calls Tryz.prog 66 #[.int .i64 c, .int .i64 n] w fun e w' => e = .returned (.int .i64 k) ∧ w = w' := by
  have p := pick6_bounds c n (by omega)
  refine ⟨(pick6Of c n).toNat, by omega, fun w => ?_⟩
  rw [Int.toNat_of_nonneg p.1]
  exact pick6_any c n w h0 h1 (by omega) h3

set_option maxHeartbeats 1000000 in
theorem fit_sh (a0 a1 a2 : Int) (w0 : -9223372036854775808 ≤ a0 ∧ a0 ≤ 9223372036854775807) (w1 : -9223372036854775808 ≤ a1 ∧ a1 ≤ 9223372036854775807) (w2 : -9223372036854775808 ≤ a2 ∧ a2 ≤ 9223372036854775807) :
    ∃ (p d : Nat) (wk fn : Bool), FitIs a0 a1 a2 p d wk fn := by
  obtain ⟨k, hk, hK⟩ := pick6_det a2 5 w2.1 w2.2 (by omega) (by omega)
  obtain ⟨p, hp, hP⟩ := pick6_det a0 9 w0.1 w0.2 (by omega) (by omega)
  obtain ⟨d, hd, hD⟩ := pick6_det a1 9 w1.1 w1.2 (by omega) (by omega)
  by_cases h4 : k = 4
  · refine ⟨1, 0, true, false, rfl, by omega, by omega, fun w => ?_⟩
    subst h4
    go_enter Tryz.func25, Tryz.ntmps25
    go_wp2_with fail
    refine (hK _).mono ?_
    rintro e x ⟨rfl, rfl⟩
    go_wp2
    have hE := ResAt.new w #[.int .i64 1, .int .i64 0, .bool true, .bool false] 45
    refine bodyPost_ret (v := shV 1 0 true false) ?_ rfl ⟨rfl, hE.below⟩
    simp [results, Tryz.f25, go_sem]
  · have n1 : ((k : Int) = 4) = False := by simp; omega
    refine ⟨p, d, false, (k : Int) == 3, sh_of (by omega) (by omega), by omega, by omega, fun w => ?_⟩
    go_enter Tryz.func25, Tryz.ntmps25
    go_wp2_with fail
    refine (hK _).mono ?_
    rintro e x ⟨rfl, rfl⟩
    go_wp2_with fail
    refine (hP _).mono ?_
    rintro e x ⟨rfl, rfl⟩
    go_wp2_with fail
    refine (hD _).mono ?_
    rintro e x ⟨rfl, rfl⟩
    go_wp2_with fail
    refine (hK _).mono ?_
    rintro e x ⟨rfl, rfl⟩
    go_wp2
    have hE := ResAt.new w #[.int .i64 p, .int .i64 d, .bool false, .bool ((k : Int) == 3)] 45
    refine bodyPost_ret (v := shV p d false ((k : Int) == 3)) ?_ rfl ⟨rfl, hE.below⟩
    simp [results, Tryz.f25, go_sem]

end Go.Proofs.YtbjmeibcphmgbaaGreat

namespace Go.Proofs.YtbjmeibcphmgbaaGreat
open Go.RowKit



end Go.Proofs.YtbjmeibcphmgbaaGreat

namespace Go.Proofs.YtbjmeibcphmgbaaGreat
open Go.ChangeShapes Go.WideShapes Go.ChangeAt Go.RowKit

theorem own : ownKnob Tryz.prog.godebug = none := by kernel_rfl
theorem laidOut : laidOutB Tryz.prog = true := by kernel_rfl

/-- A slice of ints that came in: without room, or a row of 'cap' numbers, of which the first 'len' are its elements, each fitting its kind. -/
def IsRow (k : IntKind) (w : World) (a : Option Addr) (len cap : Nat) (zs : List Int) : Prop :=
  (len = 0 ∧ cap = 0 ∧ zs = []) ∨
  ∃ b off, a = some ⟨b, off, none⟩ ∧ b < w.heap.size ∧ len ≤ cap ∧ cap ≤ maxLen ∧ zs.length = cap ∧ (∀ i, i < zs.length → w.cell? ⟨b, off + i, none⟩ = some (.int k (zs.getD i 0))) ∧ ∀ n ∈ zs, (Lit.int k n).wf = true


section
variable {H : Type} {enc : TypeId × Value → H} {P : Program} {w : World} {base b0 : Nat} {spare : Nat → Bool} {held : Bool} {r : Reach}


end

end Go.Proofs.YtbjmeibcphmgbaaGreat

namespace Go.Proofs.YtbjmeibcphmgbaaGreat
open Go.ChangeShapes Go.WideShapes Go.ChangeAt Go.RowKit

set_option linter.unusedSimpArgs false
set_option linter.unusedVariables false

/-- A slice that is read as these numbers. -/
def ReadsAs (k : IntKind) (w : World) (v : Value) (xs : List Int) : Prop :=
  xs.length ≤ maxLen ∧ ((xs = [] ∧ ∃ c, v = .slice none 0 c) ∨ ∃ g c, v = .slice (some ⟨g, 0, none⟩) xs.length c ∧ xs.length ≤ c ∧ g < w.heap.size ∧ ∀ j, j < xs.length → w.cell? ⟨g, j, none⟩ = some (.int k (xs.getD j 0)))
theorem ReadsAs.below {k : IntKind} {w x : World} {v : Value} {xs : List Int} (h : ReadsAs k w v xs) (hb : Below w.heap.size w x) : ReadsAs k x v xs :=
  ⟨h.1, h.2.imp id fun ⟨g, c, e, hc, hg, r⟩ => ⟨g, c, e, hc, Nat.lt_of_lt_of_le hg hb.size, fun j hj => (hb.cell (p := ⟨g, j, none⟩) hg).trans (r j hj)⟩⟩
theorem ReadsAs.drew {k : IntKind} {w : World} {v : Value} {xs : List Int} (h : ReadsAs k w v xs) : ReadsAs k w.drew v xs := h
theorem readsAs_of_owns {w : World} {base n : Nat} {e : TypeId} {v : Value} {k : IntKind} {l : List Int} (h : w.ownsRow base e 1 v n (l.map (Value.int k))) : ReadsAs k w v l := by
  have hl : l.length = n := by simpa using h.1
  by_cases hn : 0 < n
  · obtain ⟨g, cap, rfl, _, hg, hc, hm, _, r⟩ := own_cell h hn
    exact ⟨by omega, .inr ⟨g, cap, by rw [hl], by omega, hg, fun j hj => r j (by omega)⟩⟩
  · obtain rfl : n = 0 := by omega
    have h0 : l = [] := List.eq_nil_of_length_eq_zero hl
    subst h0
    rcases h.2 with ⟨rfl, _⟩ | ⟨g, cap, cur, rfl, _, hh, hc, hm, _⟩
    · exact ⟨by simp, .inl ⟨rfl, 0, rfl⟩⟩
    · exact ⟨by simp, .inr ⟨g, cap, rfl, by simp, lt_of_block hh, fun j hj => by simp at hj⟩⟩

set_option maxRecDepth 100000 in
theorem ints_nil (a a' : Option Addr) (c c' : Nat) (w : World) :
    Calls Tryz.prog 47 #[.slice a 0 c, .slice a' 0 c'] w fun e w' => e = .returned (.bool true) ∧ Below w.heap.size w w' := by
  go_enter Tryz.func47, Tryz.ntmps47
  go_wp2
  go_loopw [5] (fun i wr => i = .int .i64 0 ∧ Below w.heap.size w wr) (fun i _ => 0)
  case atStart => exact ⟨rfl, Below.refl _ _⟩
  case round =>
    obtain ⟨rfl, hB⟩ := hrel
    go_wp2
    go_ret
    exact ⟨rfl, hB⟩

set_option maxRecDepth 100000 in
set_option maxHeartbeats 1000000 in
theorem ints_same (v u : Value) (xs : List Int) (w : World) (hv : ReadsAs .i64 w v xs) (hu : ReadsAs .i64 w u xs) :
    Calls Tryz.prog 47 #[v, u] w fun e w' => e = .returned (.bool true) ∧ Below w.heap.size w w' := by
  obtain ⟨hm, hv⟩ := hv
  obtain ⟨_, hu⟩ := hu
  by_cases h0 : xs = []
  · subst h0
    obtain ⟨a, c, rfl⟩ : ∃ a c, v = .slice a 0 c := by
      rcases hv with ⟨_, c, rfl⟩ | ⟨g, c, rfl, _⟩
      · exact ⟨_, _, rfl⟩
      · exact ⟨_, _, rfl⟩
    obtain ⟨a', c', rfl⟩ : ∃ a c, u = .slice a 0 c := by
      rcases hu with ⟨_, c, rfl⟩ | ⟨g, c, rfl, _⟩
      · exact ⟨_, _, rfl⟩
      · exact ⟨_, _, rfl⟩
    exact ints_nil a a' c c' w
  · rcases hv with ⟨h, _⟩ | ⟨g, c, rfl, hc, hg, hr⟩
    · exact absurd h h0
    · rcases hu with ⟨h, _⟩ | ⟨g', c', rfl, hc', hg', hr'⟩
      · exact absurd h h0
      · unfold maxLen at hm
        have HR := Lib.hid hr
        have HR' := Lib.hid hr'
        obtain ⟨n, hn⟩ : ∃ n, xs.length = n := ⟨_, rfl⟩
        have Hn := Lib.hid hn
        rw [hn] at hm hc hc' ⊢
        clear hr hr' hn h0
        go_enter Tryz.func47, Tryz.ntmps47
        go_wp2
        go_loopw [5] (fun i wr => ∃ k : Nat, k ≤ n ∧ i = .int .i64 k ∧ Below w.heap.size w wr) (fun i _ => n - (intOf i).toNat)
        case atStart => exact ⟨0, by omega, rfl, Below.refl _ _⟩
        case round =>
          obtain ⟨k, hk, rfl, hB⟩ := hrel
          by_cases hlt : k < n
          · have a1 := (hB.cell (p := ⟨g, k, none⟩) hg).trans (HR.out k (by rw [Hn.out]; exact hlt))
            have a2 := (hB.cell (p := ⟨g', k, none⟩) hg').trans (HR'.out k (by rw [Hn.out]; exact hlt))
            generalize xs.getD k 0 = x at *
            have b0 : (0 : Int) ≤ (k : Int) := by omega
            have b1 : (k : Int) < (n : Int) := by omega
            go_wp2
            go_quiet (fail)
            go_wp2
            go_roundw
            case rel => exact ⟨k + 1, by omega, by go_num, drewN_below hB _⟩
            case measure => simp [intOf]; omega
          · go_wp2
            go_ret
            exact ⟨rfl, hB⟩

/-- An object's words, but the first one. -/
def wordsL (l : List Int) (a k : Nat) : List Int := (List.range k).map fun j => l.getD (a + 1 + j) 0



def exOb : Nat → Ob := fun _ => ⟨1, 1, false, false, false⟩
def exA : List Int := madeL (List.replicate 60 0) 1 1 1 false false 3
def exB : List Int := copyL exA 1 20 5


end Go.Proofs.YtbjmeibcphmgbaaGreat

namespace Go.Proofs.YtbjmeibcphmgbaaGreat
open Go.RowKit

section
variable {w x y : World} {k : Nat} {v0 v1 v2 v3 : Value} {ty : TypeId}
theorem BlkIs.facts4 (h : BlkIs x k #[v0, v1, v2, v3] ty) :
    (x.cell? ⟨k, 0, none⟩ = some v0 ∧ x.cell? ⟨k, 1, none⟩ = some v1 ∧ x.cell? ⟨k, 2, none⟩ = some v2 ∧ x.cell? ⟨k, 3, none⟩ = some v3) ∧
    x.frozen? ⟨k, 0, none⟩ = false ∧ x.frozen? ⟨k, 1, none⟩ = false ∧ x.frozen? ⟨k, 2, none⟩ = false ∧ x.frozen? ⟨k, 3, none⟩ = false ∧ k < x.heap.size :=
  ⟨⟨h.cell 0, h.cell 1, h.cell 2, h.cell 3⟩, h.free 0, h.free 1, h.free 2, h.free 3, h.lt⟩
theorem BlkIs.on {cs : Array Value} (h : BlkIs x k cs ty) (g : Below x.heap.size x y) : BlkIs y k cs ty := h.below g h.lt
end

end Go.Proofs.YtbjmeibcphmgbaaGreat

namespace Go.Proofs.YtbjmeibcphmgbaaGreat
open Go.ChangeShapes Go.WideShapes Go.ChangeAt Go.RowKit

set_option linter.unusedSimpArgs false
set_option linter.unusedVariables false

/-- The pointers of an object, the first n. -/
def ptrL (l : List Int) (a n : Nat) : List Int := (List.range n).map fun i => l.getD (a + (3 + i)) 0
theorem ptrL_length (l : List Int) (a n : Nat) : (ptrL l a n).length = n := by unfold ptrL; simp
theorem ptrL_at {l : List Int} {a n i : Nat} (h : i < n) : (ptrL l a n).getD i 0 = l.getD (a + (3 + i)) 0 := by unfold ptrL; simp [List.getD, h]

section
variable {P b : Nat} {l : List Int} {p d : Nat} {wk fn fr : Bool}
theorem strong_count (a : Nat) (w : World) (h : ArenaAt 146 w P b l) (o : ObjIs l a p d wk fn fr) :
    Calls Tryz.prog 88 #[.pointer (some ⟨P, 0, none⟩), .int .i64 a] w fun e w' => e = .returned (.tuple #[.int .i64 (if wk then 0 else p : Nat), .int .i64 0]) ∧ Below w.heap.size w w' := by
  have HS := shape_at a w h o
  clear h o
  go_enter Tryz.func88, Tryz.ntmps88
  go_wp2_with fail
  refine HS.mono ?_
  rintro e x ⟨rfl, hb⟩
  have hB := hb.alloc hb.size (.cells #[.int .i64 p, .int .i64 d, .bool wk, .bool fn] 45)
  cases wk
  · go_wp2
    go_ret2
    exact ⟨rfl, hB⟩
  · go_wp2
    go_ret2
    exact ⟨rfl, hB⟩

set_option maxRecDepth 100000 in
set_option maxHeartbeats 2000000 in
theorem strong_at (a : Nat) (w : World) (h : ArenaAt 146 w P b l) (o : ObjIs l a p d wk fn fr) (hs : ∀ i, i < p → 0 ≤ l.getD (a + (3 + i)) 0 ∧ l.getD (a + (3 + i)) 0 ≤ 9223372036854775807) :
    Calls Tryz.prog 54 #[.pointer (some ⟨P, 0, none⟩), .int .i64 a] w fun e w' => ∃ sv, e = .returned (.tuple #[sv, .int .i64 0]) ∧
      w'.ownsRow w.heap.size 3 1 sv (if wk then 0 else p) ((ptrL l a (if wk then 0 else p)).map (Value.int .i64)) ∧ Below w.heap.size w w' := by
  obtain ⟨i0, hi, hz0, hz1, hz2⟩ := info_parts infoInt
  have hlt := h.lt
  have HC := strong_count a w h o
  obtain ⟨n, hn⟩ : ∃ n, (if wk then 0 else p) = n := ⟨_, rfl⟩
  have hnp : n ≤ p := by rw [← hn]; split <;> omega
  have hp8 := o.ptrs
  rw [hn] at HC ⊢
  clear hn
  have hmk := fun W => make_row (P := Tryz.prog) 36 3 i0 (.int .i64 0) Tryz.underlying36 hi hz0 .i64 .i64 n n (Nat.le_refl _) (by rw [hz2]; omega) (by omega) W
  simp only [hz1, Nat.mul_one] at hmk
  go_enter Tryz.func54, Tryz.ntmps54
  go_wp2_with fail
  refine HC.mono ?_
  rintro e x ⟨rfl, hb⟩
  clear HC
  have kr := BlkIs.new x ((List.replicate n (0 : Int)).map (Value.int .i64)).toArray 3
  rw [← made_ints] at kr
  have hB := hb.alloc hb.size (.cells (madeCells #[Value.int .i64 0] n) 3)
  have hxs := hb.size
  go_wp2_with fail
  rw [made_ints] at kr hB ⊢
  obtain ⟨g, hg⟩ : ∃ g, x.heap.size = g := ⟨_, rfl⟩
  rw [hg] at kr hxs ⊢
  generalize x.alloc (.cells ((List.replicate n (0 : Int)).map (Value.int .i64)).toArray 3) = wo at *
  clear hg hb x
  have hA := h.below hB hlt.1 hlt.2
  have hgb : ¬ g = b := by omega
  go_loopw [23] (fun i wr => ∃ (k : Nat) (zs : List Int), k ≤ n ∧ i = .int .i64 k ∧ zs.length = n ∧ (∀ j, j < k → zs.getD j 0 = l.getD (a + (3 + j)) 0) ∧ BlkIs wr g (zs.map (Value.int .i64)).toArray 3 ∧ Below w.heap.size w wr) (fun i _ => n - (intOf i).toNat)
  case atStart => exact ⟨0, _, by omega, rfl, by simp, fun j hj => by omega, kr, hB⟩
  case round =>
    obtain ⟨k, zs, hk, rfl, hzl, hzs, hkr, hB2⟩ := hrel
    by_cases hlt2 : k < n
    · have M1 := ptr_at a k wr (h.below hB2 hlt.1 hlt.2) o (by omega) (hs k (by omega))
      obtain ⟨y, hy⟩ : ∃ y, l.getD (a + (3 + k)) 0 = y := ⟨_, rfl⟩
      rw [hy] at M1
      have j0 : (0 : Int) ≤ (k : Int) := by omega
      have j1 : (k : Int) < (n : Int) := by omega
      go_wp2_with fail
      refine M1.mono ?_
      rintro e x2 ⟨rfl, hb2⟩
      clear M1
      have hkx := hkr.more hb2 (Nat.le_refl _)
      have hB3 := hB2.trans (hb2.mono hB2.size)
      have hc := hkx.cell k
      rw [show ((zs.map (Value.int .i64)).toArray)[k]? = some (.int .i64 (zs.getD k 0)) from by simp [List.getD, show k < zs.length from by omega]] at hc
      have hf := hkx.free k
      go_wp2
      go_roundw
      case rel =>
        refine ⟨k + 1, zs.set k y, by omega, by go_num, by rw [List.length_set]; exact hzl, fun j hj => ?_, ?_, hB3.setCell (by simpa using hxs) _⟩
        · rw [set_at' (by omega)]
          by_cases e : j = k
          · subst e; rw [if_pos rfl, hy]
          · rw [if_neg e]; exact hzs j (by omega)
        · have := hkx.set k (.int .i64 y)
          simpa [List.map_set] using this
      case measure => simp [intOf]; omega
    · obtain rfl : k = n := by omega
      go_wp2
      go_ret2
      have e : zs = ptrL l a k := ext_getD (by rw [hzl, ptrL_length]) fun j hj => by rw [hzs j (by omega), ptrL_at (by omega)]
      subst e
      refine ⟨_, rfl, ⟨by simp [ptrL_length], .inr ⟨g, k, _, rfl, by omega, hkr, Nat.le_refl _, by unfold maxLen; omega, by simp [ptrL_length], by simp [List.take_of_length_le, ptrL_length]⟩⟩, hB2⟩
end

theorem own_slice {w : World} {base n size : Nat} {e : TypeId} {v : Value} {xs : List Value} (h : w.ownsRow base e size v n xs) : ∃ a c, v = .slice a n c := by
  rcases h.2 with ⟨rfl, h0⟩ | ⟨g, cap, cur, rfl, _⟩
  · exact ⟨none, 0, by rw [h0]⟩
  · exact ⟨_, _, rfl⟩
theorem own_block {w : World} {base n size : Nat} {e : TypeId} {v : Value} {xs : List Value} (h : w.ownsRow base e size v n xs) {k : Nat} (hk : some k = v.ownBlock) : base ≤ k ∧ ∃ cur, w.heap[k]? = some (.cells cur e (0, 0)) := by
  rcases h.2 with ⟨rfl, h0⟩ | ⟨g, cap, cur, rfl, hb, hh, _⟩
  · simp [Value.ownBlock] at hk
  · simp [Value.ownBlock] at hk
    subst hk
    exact ⟨hb, cur, hh⟩
theorem ReadsAs.block {k : IntKind} {w : World} {v : Value} {xs : List Int} (h : ReadsAs k w v xs) {g : Nat} (hg : v.ownBlock = some g) : g < w.heap.size := by
  rcases h.2 with ⟨_, c, rfl⟩ | ⟨g', c, rfl, _, hl, _⟩
  · simp [Value.ownBlock] at hg
  · simp [Value.ownBlock] at hg
    subst hg
    exact hl

theorem ReadsAs.slice {k : IntKind} {w : World} {v : Value} {xs : List Int} (h : ReadsAs k w v xs) : ∃ av c, v = .slice av xs.length c ∧ (0 < xs.length → ∃ g, av = some ⟨g, 0, none⟩ ∧ g < w.heap.size ∧ xs.length ≤ c ∧ ∀ j, j < xs.length → w.cell? ⟨g, j, none⟩ = some (.int k (xs.getD j 0))) := by
  rcases h.2 with ⟨rfl, c, rfl⟩ | ⟨g, c, rfl, h1, h2, h3⟩
  · exact ⟨none, c, rfl, fun h => by simp at h⟩
  · exact ⟨_, c, rfl, fun _ => ⟨g, rfl, h2, h1, h3⟩⟩

/-- A list that is read as these numbers, from wherever in its block: an array's cells, too. -/
def ReadsOff (w : World) (v : Value) (xs : List Int) : Prop :=
  xs.length ≤ maxLen ∧ ((xs = [] ∧ ∃ c, v = .slice none 0 c) ∨ ∃ g o c, v = .slice (some ⟨g, o, none⟩) xs.length c ∧ xs.length ≤ c ∧ g < w.heap.size ∧ ∀ j, j < xs.length → w.cell? ⟨g, o + j, none⟩ = some (.int .i64 (xs.getD j 0)))
theorem ReadsAs.off {w : World} {v : Value} {xs : List Int} (h : ReadsAs .i64 w v xs) : ReadsOff w v xs :=
  ⟨h.1, h.2.imp id fun ⟨g, c, e, hc, hg, r⟩ => ⟨g, 0, c, e, hc, hg, fun j hj => by rw [Nat.zero_add]; exact r j hj⟩⟩
theorem ReadsOff.chg {w x : World} {v : Value} {xs : List Int} {S : Nat → Prop} (h : ReadsOff w v xs) (hc : Chg S w x) (hs : ∀ g, v.ownBlock = some g → ¬ S g) : ReadsOff x v xs :=
  ⟨h.1, h.2.imp id fun ⟨g, o, c, e, h1, hg, r⟩ => ⟨g, o, c, e, h1, Nat.lt_of_lt_of_le hg hc.size, fun j hj => (hc.cell (p := ⟨g, o + j, none⟩) hg (hs g (by rw [e]; rfl))).trans (r j hj)⟩⟩
theorem ReadsOff.below {w x : World} {v : Value} {xs : List Int} (h : ReadsOff w v xs) (hb : Below w.heap.size w x) : ReadsOff x v xs :=
  h.chg (S := fun _ => False) (Chg.of_below hb (Nat.le_refl _)) fun _ _ h => h
theorem ReadsOff.block {w : World} {v : Value} {xs : List Int} (h : ReadsOff w v xs) {g : Nat} (hg : v.ownBlock = some g) : g < w.heap.size := by
  rcases h.2 with ⟨_, c, rfl⟩ | ⟨g', o, c, rfl, _, hl, _⟩
  · simp [Value.ownBlock] at hg
  · simp [Value.ownBlock] at hg
    subst hg
    exact hl
theorem ReadsOff.slice {w : World} {v : Value} {xs : List Int} (h : ReadsOff w v xs) : ∃ av c, v = .slice av xs.length c ∧ (0 < xs.length → ∃ g o, av = some ⟨g, o, none⟩ ∧ g < w.heap.size ∧ xs.length ≤ c ∧ ∀ j, j < xs.length → w.cell? ⟨g, o + j, none⟩ = some (.int .i64 (xs.getD j 0))) := by
  rcases h.2 with ⟨rfl, c, rfl⟩ | ⟨g, o, c, rfl, h1, h2, h3⟩
  · exact ⟨none, c, rfl, fun h => by simp at h⟩
  · exact ⟨_, c, rfl, fun _ => ⟨g, o, rfl, h2, h1, h3⟩⟩

theorem mem_ptrL {l : List Int} {a n : Nat} {y : Int} (h : y ∈ ptrL l a n) : ∃ i, i < n ∧ y = l.getD (a + (3 + i)) 0 := by
  unfold ptrL at h
  obtain ⟨i, hi, e⟩ := List.mem_map.1 h
  exact ⟨i, List.mem_range.1 hi, e.symm⟩

end Go.Proofs.YtbjmeibcphmgbaaGreat

namespace Go.Proofs.YtbjmeibcphmgbaaGreat
open Go.ChangeShapes Go.WideShapes Go.ChangeAt Go.RowKit

set_option linter.unusedSimpArgs false
set_option linter.unusedVariables false

/-- z words in each space; u is in use. pn, pk: the places of the space in use, of the old one; tn, tk: their tops; ow: owed; sc: the scan place; se: the last serial; wk, fi: both lists. -/
structure Hp where
  l : List Int
  (z u : Nat)
  mv : Bool
  (pn pk : List Nat)
  (tn tk ow sc se : Nat)
  (wk fi : List Nat)

/-- The head of what is at a place, how many words it has, how many it takes. -/
def hdW (l : List Int) (a : Nat) : Nat := (l.getD a 0).toNat
def nA (l : List Int) (a : Nat) : Nat := 3 + hp (hdW l a) + hd (hdW l a)
def szA (l : List Int) (a : Nat) : Nat := Cls.rd (nA l a)
/-- There is an object. -/
def isOb (l : List Int) (a : Nat) : Prop := ∃ p d wk fn fr, ObjIs l a p d wk fn fr
/-- Where it is now. -/
def fwd (l : List Int) (p : Nat) : Nat := if hdW l p % 4 = 2 then hdW l p / 4 else p

namespace Hp
def base (s : Hp) (i : Nat) : Nat := if i = 0 then 1 else 1 + s.z
def top (s : Hp) (i : Nat) : Nat := if i = s.u then s.tn else s.tk
def pl (s : Hp) (i : Nat) : List Nat := if i = s.u then s.pn else s.pk
def bn (s : Hp) : Nat := s.base s.u
def bk (s : Hp) : Nat := s.base (1 - s.u)
def new (z : Nat) : Hp := ⟨List.replicate (2 * z + 1) 0, z, 0, false, [], [], 1, 1 + z, 0, 0, 0, [], []⟩
/-- How many words may be taken. -/
def room (s : Hp) : Nat := s.bn + s.z - s.tn - s.ow
/-- An object is laid. -/
def lay (s : Hp) (p d : Nat) (wk fn : Bool) : Hp :=
  { s with l := madeL s.l s.tn p d wk fn (s.se + 1), pn := s.pn ++ [s.tn], tn := s.tn + Cls.rd (3 + p + d), se := s.se + 1, wk := if wk then s.wk ++ [s.tn] else s.wk, fi := if fn then s.fi ++ [s.tn] else s.fi }
/-- A word is set. -/
def put (s : Hp) (c : Nat) (v : Int) : Hp := { s with l := s.l.set c v }
/-- One that has not gone goes. -/
def go (s : Hp) (p : Nat) : Hp := { s with l := copyL s.l p s.tn (nA s.l p), pn := s.pn ++ [s.tn], tn := s.tn + szA s.l p, ow := s.ow - szA s.l p }
def moved (s : Hp) (p : Nat) : Hp := if p ∈ s.pk ∧ hdW s.l p % 2 = 1 then s.go p else s
def movV (s : Hp) (p : Nat) : Nat := if p ∈ s.pk then (if hdW s.l p % 2 = 1 then s.tn else hdW s.l p / 4) else p
/-- Some, one behind the other. -/
def movedL (s : Hp) (ps : List Nat) : Hp := ps.foldl moved s
def movVL (s : Hp) : List Nat → List Nat
  | [] => []
  | p :: ps => s.movV p :: (s.moved p).movVL ps
def flip (s : Hp) : Hp := { s with mv := true, ow := s.tn - s.bn, u := 1 - s.u, pn := s.pk, pk := s.pn, tn := s.tk, tk := s.tn, sc := s.bk }
end Hp

end Go.Proofs.YtbjmeibcphmgbaaGreat

namespace Go.Proofs.YtbjmeibcphmgbaaGreat
open Go.RowKit
set_option linter.unusedSimpArgs false
set_option linter.unusedVariables false



end Go.Proofs.YtbjmeibcphmgbaaGreat

namespace Go.Proofs.YtbjmeibcphmgbaaGreat
set_option linter.unusedVariables false

/-- Which one a place is in a list. -/
def pos (x : Int) : List Int → Option Nat
  | [] => none
  | y :: l => if y = x then some 0 else (pos x l).map (· + 1)
theorem pos_mem {x : Int} {l : List Int} : (pos x l).isSome = true ↔ x ∈ l := by
  induction l with
  | nil => simp [pos]
  | cons y l ih =>
    unfold pos
    by_cases e : y = x
    · simp [e]
    · rw [if_neg e]
      have e' : ¬ x = y := fun h => e h.symm
      simp [ih, e']
theorem pos_none {x : Int} {l : List Int} (h : x ∉ l) : pos x l = none := by
  cases e : pos x l with
  | none => rfl
  | some k => exact absurd (pos_mem.1 (by rw [e]; rfl)) h
theorem pos_snoc (x y : Int) (l : List Int) (hy : y ∉ l) : pos x (l ++ [y]) = if x = y then some l.length else pos x l := by
  induction l with
  | nil =>
    simp only [List.nil_append, pos, List.length_nil]
    by_cases e : x = y
    · rw [if_pos e, if_pos e.symm]
    · rw [if_neg e, if_neg fun h => e h.symm]; rfl
  | cons z l ih =>
    have h1 : y ∉ l := fun h => hy (List.mem_cons_of_mem _ h)
    have h2 : ¬ y = z := fun h => hy (by rw [h]; exact List.mem_cons_self)
    rw [List.cons_append]
    unfold pos
    rw [ih h1]
    by_cases e : x = y
    · subst e
      rw [if_neg fun h => h2 h.symm, if_pos rfl, if_pos rfl]
      rfl
    · rw [if_neg e, if_neg e]
theorem pos_map {φ : Int → Int} {x : Int} {l : List Int} (h : ∀ y ∈ l, φ y = φ x → y = x) : pos (φ x) (l.map φ) = pos x l := by
  induction l with
  | nil => rfl
  | cons y l ih =>
    rw [List.map_cons]
    unfold pos
    rw [ih fun z hz => h z (List.mem_cons_of_mem _ hz)]
    by_cases e : y = x
    · rw [if_pos e, if_pos (by rw [e])]
    · rw [if_neg e, if_neg fun e' => e (h y List.mem_cons_self e')]

/-- What is told of a place: which one it is, -1 for 0, -2 where it is none. -/
def rankV (o : List Int) (x : Int) : Int := if x = 0 then -1 else ((pos x o).map fun k : Nat => (k : Int)).getD (-2)

/-- One place more, if it is none yet. -/
def add1 (o : List Int) (x : Int) : List Int := if x = 0 ∨ x ∈ o then o else o ++ [x]
def addO (o l : List Int) : List Int := l.foldl add1 o
theorem addO_app (o l m : List Int) : addO o (l ++ m) = addO (addO o l) m := List.foldl_append
theorem addO_take {o l : List Int} {k : Nat} (h : k < l.length) : addO o (l.take (k + 1)) = add1 (addO o (l.take k)) (l.getD k 0) := by
  rw [List.take_succ_eq_append_getElem h, addO_app]
  simp [addO, List.getD, h]
theorem add1_mem {o : List Int} {x y : Int} : y ∈ add1 o x ↔ y ∈ o ∨ (y = x ∧ x ≠ 0) := by
  unfold add1
  by_cases h : x = 0 ∨ x ∈ o
  · rw [if_pos h]
    refine ⟨.inl, fun h' => h'.elim id fun ⟨e, n⟩ => ?_⟩
    rcases h with h | h
    · exact absurd h n
    · rw [e]; exact h
  · rw [if_neg h, List.mem_append, List.mem_singleton]
    exact ⟨fun h' => h'.imp id fun e => ⟨e, fun e0 => h (.inl e0)⟩, fun h' => h'.imp id fun e => e.1⟩
theorem addO_mem {o l : List Int} {y : Int} : y ∈ addO o l ↔ y ∈ o ∨ (y ∈ l ∧ y ≠ 0) := by
  induction l generalizing o with
  | nil => simp [addO]
  | cons x l ih =>
    show y ∈ addO (add1 o x) l ↔ _
    rw [ih, add1_mem, List.mem_cons]
    constructor
    · rintro ((h | ⟨e, n⟩) | ⟨h, n⟩)
      · exact .inl h
      · exact .inr ⟨.inl e, by rw [e]; exact n⟩
      · exact .inr ⟨.inr h, n⟩
    · rintro (h | ⟨e | h, n⟩)
      · exact .inl (.inl h)
      · exact .inl (.inr ⟨e, by rw [← e]; exact n⟩)
      · exact .inr ⟨h, n⟩
/-- Places that are none twice, and none of them is 0. -/
def Ord (o : List Int) : Prop := o.Nodup ∧ (0 : Int) ∉ o
theorem ord_nil : Ord [] := ⟨List.Pairwise.nil, by simp⟩
theorem add1_ord {o : List Int} (h : Ord o) (x : Int) : Ord (add1 o x) := by
  unfold add1
  by_cases e : x = 0 ∨ x ∈ o
  · rw [if_pos e]; exact h
  · rw [if_neg e]
    refine ⟨List.nodup_append.2 ⟨h.1, by simp, fun a ha b hb => ?_⟩, fun hm => ?_⟩
    · have : b = x := by simpa using hb
      subst this
      rintro rfl
      exact e (.inr ha)
    · rcases List.mem_append.1 hm with hm | hm
      · exact h.2 hm
      · exact e (.inl (by simpa using hm : (0 : Int) = x).symm)
theorem addO_ord {o : List Int} (h : Ord o) (l : List Int) : Ord (addO o l) := by
  induction l generalizing o with
  | nil => exact h
  | cons x l ih => exact ih (add1_ord h x)
theorem add1_pre (o : List Int) (x : Int) : ∃ m, add1 o x = o ++ m := by
  unfold add1
  by_cases e : x = 0 ∨ x ∈ o
  · rw [if_pos e]; exact ⟨[], by simp⟩
  · rw [if_neg e]; exact ⟨[x], rfl⟩
theorem addO_pre (o l : List Int) : ∃ m, addO o l = o ++ m := by
  induction l generalizing o with
  | nil => exact ⟨[], by simp [addO]⟩
  | cons x l ih =>
    obtain ⟨m, hm⟩ := add1_pre o x
    obtain ⟨m', hm'⟩ := ih (add1 o x)
    exact ⟨m ++ m', by show addO (add1 o x) l = _; rw [hm', hm, List.append_assoc]⟩
theorem addO_map {φ : Int → Int} {o l : List Int} (h0 : ∀ x ∈ l, φ x = 0 ↔ x = 0) (hi : ∀ x ∈ l, ∀ y, y ∈ o ∨ y ∈ l → φ y = φ x → y = x) : addO (o.map φ) (l.map φ) = (addO o l).map φ := by
  induction l generalizing o with
  | nil => rfl
  | cons x l ih =>
    have e : add1 (o.map φ) (φ x) = (add1 o x).map φ := by
      unfold add1
      have h1 := h0 x List.mem_cons_self
      have h2 : φ x ∈ o.map φ ↔ x ∈ o := by
        rw [List.mem_map]
        exact ⟨fun ⟨y, hy, e⟩ => by rw [← hi x List.mem_cons_self y (.inl hy) e]; exact hy, fun h => ⟨x, h, rfl⟩⟩
      by_cases e : x = 0 ∨ x ∈ o
      · rw [if_pos e, if_pos (by rw [h1, h2]; exact e)]
      · rw [if_neg e, if_neg (by rw [h1, h2]; exact e)]
        simp
    show addO (add1 (o.map φ) (φ x)) (l.map φ) = (addO (add1 o x) l).map φ
    rw [e]
    refine ih (fun y hy => h0 y (List.mem_cons_of_mem _ hy)) fun y hy z hz e => hi y (List.mem_cons_of_mem _ hy) z ?_ e
    rcases hz with hz | hz
    · rcases add1_mem.1 hz with h | ⟨rfl, _⟩
      · exact .inl h
      · exact .inr List.mem_cons_self
    · exact .inr (List.mem_cons_of_mem _ hz)

theorem nodup_len {o V : List Int} (h : o.Nodup) (hs : ∀ x ∈ o, x ∈ V) : o.length ≤ V.length := by
  induction o generalizing V with
  | nil => simp
  | cons x o ih =>
    have hx := hs x List.mem_cons_self
    have hn := List.nodup_cons.1 h
    have := ih hn.2 (V := V.erase x) fun y hy => (List.mem_erase_of_ne fun e => hn.1 (by rw [← e]; exact hy)).2 (hs y (List.mem_cons_of_mem _ hy))
    rw [List.length_erase_of_mem hx] at this
    have h1 : 0 < V.length := List.length_pos_of_mem hx
    simp
    omega

/-- On from the i-th place, as long as there are more. -/
def goO (G : Int → List Int) : Nat → List Int → Nat → List Int
  | 0, o, _ => o
  | n + 1, o, i => if i < o.length then goO G n (addO o (G (o.getD i 0))) (i + 1) else o
def reachO (G : Int → List Int) (n : Nat) (r : List Int) : List Int := goO G n (addO [] r) 0
theorem goO_end {G : Int → List Int} {n : Nat} {o : List Int} {i : Nat} (h : o.length ≤ i) : goO G n o i = o := by
  cases n with
  | zero => rfl
  | succ n => unfold goO; rw [if_neg (by omega)]

/-- Closed up to the i-th, whatever is in it is a root or what one ahead of it points to. -/
structure Inv (G : Int → List Int) (V r o : List Int) (i : Nat) : Prop where
  ord : Ord o
  sub : ∀ x ∈ o, x ∈ V
  roots : ∀ x ∈ r, x ≠ 0 → x ∈ o
  shut : ∀ j, j < i → ∀ y ∈ G (o.getD j 0), y ≠ 0 → y ∈ o
  from_ : ∀ j, j < o.length → o.getD j 0 ∈ r ∨ ∃ t, t < j ∧ o.getD j 0 ∈ G (o.getD t 0)
  le : i ≤ o.length
theorem inv_start {G : Int → List Int} {V r : List Int} (h : ∀ x ∈ r, x = 0 ∨ x ∈ V) : Inv G V r (addO [] r) 0 :=
  ⟨addO_ord ord_nil r, fun x hx => by
    rcases addO_mem.1 hx with h' | ⟨h1, h2⟩
    · simp at h'
    · exact (h x h1).resolve_left h2, fun x hx hn => addO_mem.2 (.inr ⟨hx, hn⟩), fun j hj => by omega, fun j hj => .inl (by
      have hm : (addO [] r).getD j 0 ∈ addO [] r := by
        rw [List.getD_eq_getElem?_getD, List.getElem?_eq_getElem hj]
        exact List.getElem_mem _
      rcases addO_mem.1 hm with h' | h'
      · simp at h'
      · exact h'.1), Nat.zero_le _⟩
theorem getD_mem {o : List Int} {j : Nat} (hj : j < o.length) : o.getD j 0 ∈ o := by
  rw [List.getD_eq_getElem?_getD, List.getElem?_eq_getElem hj]
  exact List.getElem_mem _
theorem getD_app {o m : List Int} {j : Nat} (hj : j < o.length) : (o ++ m).getD j 0 = o.getD j 0 := by
  rw [List.getD_eq_getElem?_getD, List.getElem?_append_left hj, List.getD_eq_getElem?_getD]
theorem Inv.step {G : Int → List Int} {V r o : List Int} {i : Nat} (h : Inv G V r o i) (hi : i < o.length) (hG : ∀ x ∈ V, ∀ y ∈ G x, y = 0 ∨ y ∈ V) : Inv G V r (addO o (G (o.getD i 0))) (i + 1) := by
  obtain ⟨m, hm⟩ := addO_pre o (G (o.getD i 0))
  have hO := addO_ord h.ord (G (o.getD i 0))
  have hM : ∀ {y}, y ∈ addO o (G (o.getD i 0)) ↔ y ∈ o ∨ (y ∈ G (o.getD i 0) ∧ y ≠ 0) := addO_mem
  have hV := hG _ (h.sub _ (getD_mem hi))
  rw [hm] at hO hM ⊢
  refine ⟨hO, fun x hx => ?_, fun x hx hn => List.mem_append_left _ (h.roots x hx hn), fun j hj y hy hn => ?_, fun j hj => ?_, by simp; omega⟩
  · rcases hM.1 hx with h' | ⟨h1, h2⟩
    · exact h.sub x h'
    · exact (hV x h1).resolve_left h2
  · rw [getD_app (by omega)] at hy
    by_cases e : j = i
    · subst e; exact hM.2 (.inr ⟨hy, hn⟩)
    · exact List.mem_append_left _ (h.shut j (by omega) y hy hn)
  · by_cases e : j < o.length
    · rw [getD_app e]
      refine (h.from_ j e).imp id fun ⟨t, ht, hy⟩ => ⟨t, ht, ?_⟩
      rw [getD_app (by omega)]
      exact hy
    · refine .inr ⟨i, by omega, ?_⟩
      rw [getD_app (m := m) hi]
      have hme : (o ++ m).getD j 0 ∈ m := by
        rw [List.getD_eq_getElem?_getD, List.getElem?_append_right (by omega), List.getElem?_eq_getElem (by simp at hj; omega)]
        exact List.getElem_mem _
      have hno : (o ++ m).getD j 0 ∉ o := fun h' => (List.nodup_append.1 hO.1).2.2 _ h' _ hme rfl
      rcases hM.1 (List.mem_append_right o hme) with h' | h'
      · exact absurd h' hno
      · exact h'.1
theorem Inv.len {G : Int → List Int} {V r o : List Int} {i : Nat} (h : Inv G V r o i) : o.length ≤ V.length := nodup_len h.ord.1 h.sub

/-- All that one comes to. -/
theorem goO_inv {G : Int → List Int} {V r o : List Int} {i n : Nat} (h : Inv G V r o i) (hn : V.length ≤ i + n) (hG : ∀ x ∈ V, ∀ y ∈ G x, y = 0 ∨ y ∈ V) : Inv G V r (goO G n o i) (goO G n o i).length := by
  induction n generalizing o i with
  | zero =>
    have := h.len
    have h1 : i = o.length := by have := h.le; omega
    subst h1
    exact h
  | succ n ih =>
    unfold goO
    by_cases e : i < o.length
    · rw [if_pos e]
      exact ih (h.step e hG) (by omega)
    · rw [if_neg e]
      have h1 : i = o.length := by have := h.le; omega
      subst h1
      exact h
theorem reachO_inv {G : Int → List Int} {V r : List Int} (h : ∀ x ∈ r, x = 0 ∨ x ∈ V) (hG : ∀ x ∈ V, ∀ y ∈ G x, y = 0 ∨ y ∈ V) : Inv G V r (reachO G V.length r) (reachO G V.length r).length :=
  goO_inv (inv_start h) (by omega) hG


/-- Wherever they lie, in the same order. -/
theorem goO_map {φ : Int → Int} {G H : Int → List Int} {V o : List Int} (n i : Nat) (hs : ∀ x ∈ o, x ∈ V) (hG : ∀ x ∈ V, ∀ y ∈ G x, y = 0 ∨ y ∈ V) (hH : ∀ x ∈ V, H (φ x) = (G x).map φ) (h0 : φ 0 = 0) (hn : ∀ x ∈ V, φ x ≠ 0) (hi : ∀ x ∈ V, ∀ y ∈ V, φ y = φ x → y = x) :
    goO H n (o.map φ) i = (goO G n o i).map φ := by
  induction n generalizing o i with
  | zero => rfl
  | succ n ih =>
    unfold goO
    rw [List.length_map]
    by_cases e : i < o.length
    · rw [if_pos e, if_pos e]
      have e1 : (o.map φ).getD i 0 = φ (o.getD i 0) := by simp [List.getD, e]
      have hv := hs _ (getD_mem e)
      have hz : ∀ x, x = 0 ∨ x ∈ V → (φ x = 0 ↔ x = 0) := fun x hx => ⟨fun e => hx.elim id fun h => absurd e (hn x h), fun e => by rw [e, h0]⟩
      rw [e1, hH _ hv, addO_map (fun x hx => hz x (hG _ hv x hx)) (fun x hx y hy e => ?_)]
      · exact ih (i + 1) fun x hx => by
          rcases addO_mem.1 hx with h | ⟨h, hne⟩
          · exact hs x h
          · exact (hG _ hv x h).resolve_left hne
      · have hx' := hG _ hv x hx
        have hy' : y = 0 ∨ y ∈ V := hy.elim (fun h => .inr (hs y h)) (fun h => hG _ hv y h)
        by_cases ex : x = 0
        · subst ex; rw [h0] at e; exact (hz y hy').1 e
        · by_cases ey : y = 0
          · subst ey; rw [h0] at e; exact ((hz x hx').1 e.symm).symm
          · exact hi x (hx'.resolve_left ex) y (hy'.resolve_left ey) e
    · rw [if_neg e, if_neg e]
theorem reachO_map {φ : Int → Int} {G H : Int → List Int} {V r : List Int} (n : Nat) (hr : ∀ x ∈ r, x = 0 ∨ x ∈ V) (hG : ∀ x ∈ V, ∀ y ∈ G x, y = 0 ∨ y ∈ V) (hH : ∀ x ∈ V, H (φ x) = (G x).map φ) (h0 : φ 0 = 0) (hn : ∀ x ∈ V, φ x ≠ 0) (hi : ∀ x ∈ V, ∀ y ∈ V, φ y = φ x → y = x) :
    reachO H n (r.map φ) = (reachO G n r).map φ := by
  have hz : ∀ x, x = 0 ∨ x ∈ V → (φ x = 0 ↔ x = 0) := fun x hx => ⟨fun e => hx.elim id fun h => absurd e (hn x h), fun e => by rw [e, h0]⟩
  have e : addO [] (r.map φ) = (addO [] r).map φ := by
    refine addO_map (o := []) (fun x hx => hz x (hr x hx)) fun x hx y hy e => ?_
    have hx' := hr x hx
    have hy' : y = 0 ∨ y ∈ V := hy.elim (fun h => by simp at h) (fun h => hr y h)
    by_cases ex : x = 0
    · subst ex; rw [h0] at e; exact (hz y hy').1 e
    · by_cases ey : y = 0
      · subst ey; rw [h0] at e; exact ((hz x hx').1 e.symm).symm
      · exact hi x (hx'.resolve_left ex) y (hy'.resolve_left ey) e
  unfold reachO
  rw [e]
  exact goO_map n 0 (fun x hx => by
    rcases addO_mem.1 hx with h | ⟨h, hne⟩
    · simp at h
    · exact (hr x h).resolve_left hne) hG hH h0 hn hi
/-- What is told of a place, wherever it lies. -/
theorem rankV_map {φ : Int → Int} {o V : List Int} {x : Int} (hs : ∀ y ∈ o, y ∈ V) (hx : x = 0 ∨ x ∈ V) (h0 : φ 0 = 0) (hn : ∀ x ∈ V, φ x ≠ 0) (hi : ∀ x ∈ V, ∀ y ∈ V, φ y = φ x → y = x) : rankV (o.map φ) (φ x) = rankV o x := by
  unfold rankV
  by_cases e : x = 0
  · rw [if_pos e, if_pos (by rw [e, h0])]
  · have hv := hx.resolve_left e
    rw [if_neg e, if_neg (hn x hv), pos_map fun y hy => hi x hv y (hs y hy)]

end Go.Proofs.YtbjmeibcphmgbaaGreat

namespace Go.Proofs.YtbjmeibcphmgbaaGreat
open Go.ChangeShapes Go.WideShapes Go.ChangeAt Go.RowKit

set_option linter.unusedSimpArgs false
set_option linter.unusedVariables false

theorem cmpNaN_no (a : Int) (w : World) : Calls Tryz.prog 130 #[.int .i64 a] w fun e w' => e = .returned (.bool false) ∧ w' = w := by
  go_enter Tryz.func130, Tryz.ntmps130
  go_wp2
  go_ret
  exact ⟨by simp, rfl⟩
theorem slicesNaN_no (a : Int) (w : World) : Calls Tryz.prog 116 #[.int .i64 a] w fun e w' => e = .returned (.bool false) ∧ w' = w := by
  go_enter Tryz.func116, Tryz.ntmps116
  go_wp2
  go_ret
  exact ⟨by simp, rfl⟩
theorem less_any (a b : Int) (w : World) : Calls Tryz.prog 115 #[.int .i64 a, .int .i64 b] w fun e w' => e = .returned (.bool (decide (a < b))) ∧ w' = w := by
  go_enter Tryz.func115, Tryz.ntmps115
  go_wp2_with (refine (cmpNaN_no _ _).mono ?_; rintro e x ⟨rfl, rfl⟩)
  go_ret
  exact ⟨by simp, rfl⟩

/-- Numbers that rise. -/
def Rises (xs : List Int) : Prop := ∀ i j, i < j → j < xs.length → xs.getD i 0 < xs.getD j 0
theorem Rises.mem_at {xs : List Int} {i : Nat} {t : Int} (h : Rises xs) (hlo : ∀ k, k < i → xs.getD k 0 < t) (hhi : ∀ k, i ≤ k → k < xs.length → t ≤ xs.getD k 0) (hi : i < xs.length) : (xs.getD i 0 == t) = decide (t ∈ xs) := by
  by_cases e : xs.getD i 0 = t
  · rw [decide_eq_true (by rw [← e]; exact getD_mem hi)]; simpa using e
  · rw [decide_eq_false fun hm => ?_]
    · simpa using e
    · obtain ⟨k, hk, hkt⟩ := List.mem_iff_getElem.1 hm
      have hkt' : xs.getD k 0 = t := by simp [List.getD, hk, hkt]
      rcases Nat.lt_trichotomy k i with h1 | h1 | h1
      · have := hlo k h1; omega
      · subst h1; exact e hkt'
      · have := h i k h1 hk; have := hhi i (Nat.le_refl _) hi; omega
theorem Rises.not_mem {xs : List Int} {t : Int} (hlo : ∀ k, k < xs.length → xs.getD k 0 < t) : t ∉ xs := fun hm => by
  obtain ⟨k, hk, hkt⟩ := List.mem_iff_getElem.1 hm
  have hkt' : xs.getD k 0 = t := by simp [List.getD, hk, hkt]
  have := hlo k hk
  omega

set_option maxRecDepth 100000 in
set_option maxHeartbeats 4000000 in
theorem search_any (v : Value) (xs : List Int) (t : Int) (w : World) (hv : ReadsAs .i64 w v xs) (hs : Rises xs) (hl : xs.length ≤ 100000) :
    Calls Tryz.prog 82 #[v, .int .i64 t] w fun e w' => (∃ i : Int, e = .returned (.tuple #[.int .i64 i, .bool (decide (t ∈ xs))])) ∧ Below w.heap.size w w' := by
  obtain ⟨va, vc, rfl, hr⟩ := hv.slice
  have HR := Lib.hid hr
  clear hr hv
  obtain ⟨n, hn⟩ : ∃ n, xs.length = n := ⟨_, rfl⟩
  have Hn := Lib.hid hn
  rw [hn] at hl ⊢
  have hne : n = 0 → xs = [] := fun h => List.eq_nil_of_length_eq_zero (by omega)
  clear hn
  go_enter Tryz.func82, Tryz.ntmps82
  go_wp2
  go_loopw [7, 8] (fun i j wr => ∃ (a b : Nat), a ≤ b ∧ b ≤ n ∧ i = .int .i64 a ∧ j = .int .i64 b ∧ Hid ((∀ k, k < a → xs.getD k 0 < t) ∧ (∀ k, b ≤ k → k < n → t ≤ xs.getD k 0)) ∧ Below w.heap.size w wr) (fun i j _ => (intOf j - intOf i).toNat)
  case atStart => exact ⟨0, n, by omega, by omega, rfl, rfl, Lib.hid ⟨fun k h => by omega, fun k h1 h2 => by omega⟩, Below.refl _ _⟩
  case round =>
    obtain ⟨a, b, hab, hbn, rfl, rfl, hI, hB⟩ := hrel
    by_cases hlt : a < b
    · obtain ⟨g, e, hg, hc, hcell⟩ := HR.out (by rw [Hn.out]; omega)
      subst e
      obtain ⟨m, hm⟩ : ∃ m, (a + b) / 2 = m := ⟨_, rfl⟩
      have c0 := (hB.cell (p := ⟨g, m, none⟩) hg).trans (hcell m (by rw [Hn.out]; omega))
      have m1 : ((IntKind.i64.wrap ((a : Int) + (b : Int)))) = ((a + b : Nat) : Int) := by rw [IntWalk.i64_in _ (by omega)]; omega
      have m0 : (0 : Int) ≤ (m : Int) := by omega
      have m2 : (m : Int) < (n : Int) := by omega
      have m3 : IntKind.u64.wrap ((a + b : Nat) : Int) = ((a + b : Nat) : Int) := by rw [IntKind.wrap_u64]; omega
      have m4 : IntKind.i64.wrap ((m : Nat) : Int) = (m : Int) := IntWalk.i64_in _ (by omega)
      have m5 : ((a : Int) + (b : Int)) / 2 = (m : Int) := by omega
      have M5 := Lib.hid m5
      clear m5
      have hlow : Hid (xs.getD m 0 < t → ∀ k, k < m + 1 → xs.getD k 0 < t) := Lib.hid fun h k hk => by
        by_cases e : k = m
        · subst e; exact h
        · have := hs k m (by omega) (by rw [Hn.out]; omega); omega
      have hhigh : Hid (¬ xs.getD m 0 < t → ∀ k, m ≤ k → k < n → t ≤ xs.getD k 0) := Lib.hid fun h k h1 h2 => by
        by_cases e : k = m
        · subst e; omega
        · have := hs m k (by omega) (by rw [Hn.out]; omega); omega
      clear hcell HR
      obtain ⟨q, hq⟩ : ∃ q, xs.getD m 0 = q := ⟨_, rfl⟩
      rw [hq] at c0 hlow hhigh
      clear hq
      go_wp2_with fail
      refine (less_any _ _ _).mono ?_
      rintro e x ⟨rfl, rfl⟩
      by_cases hqt : q < t
      · have d0 : decide (q < t) = true := decide_eq_true hqt
        go_wp2
        go_roundw
        case rel => exact ⟨m + 1, b, by omega, by omega, by go_num, rfl, Lib.hid ⟨hlow.out hqt, hI.out.2⟩, hB⟩
        case measure => simp [intOf]; omega
      · have d0 : decide (q < t) = false := decide_eq_false hqt
        go_wp2
        go_roundw
        case rel => exact ⟨a, m, by omega, by omega, rfl, by rw [M5.out], Lib.hid ⟨hI.out.1, hhigh.out hqt⟩, hB⟩
        case measure => simp [intOf]; omega
    · obtain rfl : a = b := by omega
      by_cases han : a < n
      · obtain ⟨g, e, hg, hc, hcell⟩ := HR.out (by rw [Hn.out]; omega)
        subst e
        have c0 := (hB.cell (p := ⟨g, a, none⟩) hg).trans (hcell a (by rw [Hn.out]; omega))
        have hM := hs.mem_at hI.out.1 (fun k h1 h2 => hI.out.2 k h1 (by rw [← Hn.out]; exact h2)) (by rw [Hn.out]; exact han)
        have m0 : (0 : Int) ≤ (a : Int) := by omega
        have m2 : (a : Int) < (n : Int) := by omega
        clear hcell HR hI
        obtain ⟨q, hq⟩ : ∃ q, xs.getD a 0 = q := ⟨_, rfl⟩
        rw [hq] at c0 hM
        clear hq
        have HM := Lib.hid hM
        clear hM
        by_cases hqt : q = t
        · subst hqt
          have d0 : (q == q) = true := by simp
          go_wp2
          go_ret2
          exact ⟨⟨(a : Int), by rw [← HM.out]; simp⟩, hB⟩
        · have d0 : (q == t) = false := by simpa using hqt
          go_wp2_with (refine (slicesNaN_no _ _).mono ?_; rintro e x ⟨rfl, rfl⟩)
          go_ret2
          exact ⟨⟨(a : Int), by rw [← HM.out, d0]; rfl⟩, hB⟩
      · have hN := Rises.not_mem (xs := xs) (t := t) fun k hk => hI.out.1 k (by rw [Hn.out] at hk; omega)
        have HN := Lib.hid (decide_eq_false hN)
        have d0 : decide ((a : Int) < (n : Int)) = false := decide_eq_false (by omega)
        go_wp2
        go_ret2
        exact ⟨⟨(a : Int), by rw [HN.out]; rfl⟩, hB⟩

end Go.Proofs.YtbjmeibcphmgbaaGreat

namespace Go.Proofs.YtbjmeibcphmgbaaGreat
open Go.ChangeShapes Go.WideShapes Go.ChangeAt Go.RowKit

set_option linter.unusedSimpArgs false
set_option linter.unusedVariables false

section
variable {P b : Nat} {l : List Int}
theorem at_zero (w : World) (h : ArenaAt 146 w P b l) (hl : 0 < l.length) (h0 : l.getD 0 0 = 0) :
    Calls Tryz.prog 83 #[.pointer (some ⟨P, 0, none⟩), .int .i64 0] w fun e w' => e = .returned (.tuple #[.int .i64 0, .bool false]) ∧ Below w.heap.size w w' := by
  have HL : Calls Tryz.prog 90 #[.pointer (some ⟨P, 0, none⟩), .int .i64 0] w _ := load_there 0 w h hl
  rw [h0] at HL
  have HW := where_any 0 (by omega)
  rw [show isGone 0 = false from by decide] at HW
  clear h
  go_enter Tryz.func83, Tryz.ntmps83
  go_wp2_with fail
  refine HL.mono ?_
  rintro e x ⟨rfl, rfl⟩
  go_wp2_with fail
  refine (HW _).mono ?_
  rintro e y ⟨rfl, hb⟩
  go_wp2
  go_ret2
  exact ⟨rfl, hb⟩

set_option maxHeartbeats 2000000 in
theorem copy_gone (a n sb sz st : Nat) (w : World) (h : ArenaAt 146 w P b l) (ha : a < l.length) (h0 : 1 ≤ n) (h1 : n ≤ 131072) (hg : l.getD a 0 = (2 + n * 4 : Nat)) :
    Calls Tryz.prog 51 #[.pointer (some ⟨P, 0, none⟩), .int .i64 a, spV sb sz st] w fun e w' => e = .returned (.tuple #[spV sb sz st, .int .i64 n, .int .i64 0]) ∧ Below w.heap.size w w' := by
  have hlt := h.lt
  have HA := fun x (hx : ArenaAt 146 x P b l) => at_gone a n x hx ha h0 h1 hg
  clear hg
  obtain ⟨k1, k2, hB⟩ := two_new w #[.int .i64 sb, .int .i64 sz, .int .i64 st] #[.int .i64 0, .int .i64 0, .int .i64 0] 76 76
  go_enter Tryz.func51, Tryz.ntmps51
  go_wp2_with fail
  generalize (w.alloc (.cells #[.int .i64 sb, .int .i64 sz, .int .i64 st] 76)).alloc (.cells #[.int .i64 0, .int .i64 0, .int .i64 0] 76) = x at *
  refine (HA _ (h.below hB hlt.1 hlt.2)).mono ?_
  rintro e y ⟨rfl, hb⟩
  replace k1 := k1.more hb (Nat.le_refl _)
  replace k2 := k2.more hb (Nat.le_refl _)
  replace hB := hB.trans (hb.mono hB.size)
  clear hb x HA
  obtain ⟨⟨c0, c1, c2⟩, f0, f1, f2⟩ := blk3 k1
  obtain ⟨⟨d0, d1, d2⟩, g0, g1, g2⟩ := blk3 k2
  go_wp2
  have hE := ((k2.set 0 (.int .i64 sb)).set 1 (.int .i64 sz)).set 2 (.int .i64 st)
  obtain ⟨⟨e0, e1, e2⟩, _⟩ := blk3 hE
  refine bodyPost_ret (v := .tuple #[spV sb sz st, .int .i64 n, .int .i64 0]) ?_ rfl ⟨rfl, ?_⟩
  · simp [results, Tryz.f51, go_sem, e0, e1, e2]
  · exact ((hB.setCell (p := ⟨w.heap.size + 1, 0, none⟩) (by simp) (.int .i64 sb)).setCell (p := ⟨w.heap.size + 1, 1, none⟩) (by simp) (.int .i64 sz)).setCell (p := ⟨w.heap.size + 1, 2, none⟩) (by simp) (.int .i64 st)

end

end Go.Proofs.YtbjmeibcphmgbaaGreat

namespace Go.Proofs.YtbjmeibcphmgbaaGreat
open Go.ChangeShapes Go.WideShapes Go.ChangeAt Go.RowKit

set_option linter.unusedSimpArgs false
set_option linter.unusedVariables false

def hpC (P b0 z t0 b1 t1 : Nat) (v0 v1 : Value) (u : Nat) (mv : Bool) (ow sc se : Nat) (v2 v3 : Value) : Array Value :=
  #[.pointer (some ⟨P, 0, none⟩), .int .i64 b0, .int .i64 z, .int .i64 t0, .int .i64 b1, .int .i64 z, .int .i64 t1, v0, v1, .int .i64 u, .bool mv, .int .i64 ow, .int .i64 sc, .int .i64 se, v2, v3]
def nums (l : List Nat) : List Int := l.map fun n : Nat => (n : Int)
theorem nums_length (l : List Nat) : (nums l).length = l.length := by unfold nums; simp
theorem nums_snoc (l : List Nat) (a : Nat) : nums (l ++ [a]) = nums l ++ [(a : Int)] := by unfold nums; simp
theorem nums_getD {l : List Nat} {i : Nat} (h : i < l.length) : (nums l).getD i 0 = ((l.getD i 0 : Nat) : Int) := by unfold nums; simp [List.getD, h]
theorem mem_nums {l : List Nat} {n : Nat} : (n : Int) ∈ nums l ↔ n ∈ l := by
  unfold nums
  rw [List.mem_map]
  exact ⟨fun ⟨a, ha, e⟩ => by rw [← show a = n from by omega]; exact ha, fun h => ⟨n, h, rfl⟩⟩
/-- A row of the heap's own. -/
abbrev RowIs (w : World) (v : Value) (l : List Nat) : Prop := w.ownsRow 0 3 1 v l.length ((nums l).map (Value.int .i64))
theorem RowIs.reads {w : World} {v : Value} {l : List Nat} (h : RowIs w v l) : ReadsAs .i64 w v (nums l) := readsAs_of_owns h
theorem RowIs.chg {w x : World} {v : Value} {l : List Nat} {S : Nat → Prop} (h : RowIs w v l) (hc : Chg S w x) (hs : ∀ g, v.ownBlock = some g → ¬ S g) : RowIs x v l := by
  refine ⟨h.1, h.2.imp id ?_⟩
  rintro ⟨g, cap, cur, rfl, hb, hh, r⟩
  exact ⟨g, cap, cur, rfl, hb, (hc.block g (Array.getElem?_eq_some_iff.1 hh).1 (hs g rfl)).trans hh, r⟩
theorem RowIs.lt {w : World} {v : Value} {l : List Nat} (h : RowIs w v l) {g : Nat} (e : v.ownBlock = some g) : g < w.heap.size := (World.ownsRow.lt h g e).2
theorem RowIs.int {w : World} {v : Value} {l : List Nat} (h : RowIs w v l) {g : Nat} (e : v.ownBlock = some g) : ∃ cur, w.heap[g]? = some (.cells cur 3 (0, 0)) := (own_block h e.symm).2
/-- A row is no block of another type. -/
theorem RowIs.ne {w : World} {v : Value} {l : List Nat} (h : RowIs w v l) {k : Nat} {cs : Array Value} {ty : TypeId} (hk : BlkIs w k cs ty) (ht : 3 ≠ ty) : v.ownBlock ≠ some k := fun e => by
  obtain ⟨cur, hh⟩ := h.int e
  unfold BlkIs at hk
  rw [hk] at hh
  injection hh with hh
  injection hh with _ hh
  exact ht hh.symm

/-- The blocks of a heap. -/
def Foot (H P b : Nat) (v0 v1 v2 v3 : Value) (k : Nat) : Prop := k = H ∨ k = P ∨ k = b ∨ v0.ownBlock = some k ∨ v1.ownBlock = some k ∨ v2.ownBlock = some k ∨ v3.ownBlock = some k
structure HeapIn (w : World) (H P b : Nat) (v0 v1 v2 v3 : Value) (s : Hp) : Prop where
  blk : BlkIs w H (hpC P (s.base 0) s.z (s.top 0) (s.base 1) (s.top 1) v0 v1 s.u s.mv s.ow s.sc s.se v2 v3) 80
  ar : ArenaAt 146 w P b s.l
  r0 : RowIs w v0 (s.pl 0)
  r1 : RowIs w v1 (s.pl 1)
  r2 : RowIs w v2 s.wk
  r3 : RowIs w v3 s.fi
  apart : ∀ g, (v0.ownBlock = some g → v1.ownBlock ≠ some g ∧ v2.ownBlock ≠ some g ∧ v3.ownBlock ≠ some g) ∧ (v1.ownBlock = some g → v2.ownBlock ≠ some g ∧ v3.ownBlock ≠ some g) ∧ (v2.ownBlock = some g → v3.ownBlock ≠ some g)
def HeapAt (w : World) (K : Nat → Prop) (H : Nat) (s : Hp) : Prop := ∃ P b v0 v1 v2 v3, HeapIn w H P b v0 v1 v2 v3 s ∧ ∀ k, Foot H P b v0 v1 v2 v3 k → K k
/-- What a call leaves: the heap is as s, its blocks are those it had, and new ones; no other has turned. -/
def Went (w : World) (K : Nat → Prop) (H : Nat) (s : Hp) (w' : World) : Prop := ∃ K', HeapAt w' K' H s ∧ (∀ k, K' k → K k ∨ w.heap.size ≤ k) ∧ Chg K w w'

section
variable {w x : World} {K : Nat → Prop} {H P b : Nat} {v0 v1 v2 v3 : Value} {s s1 s2 : Hp} {S : Nat → Prop}
theorem HeapIn.chg (h : HeapIn w H P b v0 v1 v2 v3 s) (hc : Chg S w x) (hs : ∀ k, Foot H P b v0 v1 v2 v3 k → ¬ S k) : HeapIn x H P b v0 v1 v2 v3 s :=
  ⟨h.blk.chg hc (hs _ (.inl rfl)), h.ar.chg hc (hs _ (.inr (.inl rfl))) (hs _ (.inr (.inr (.inl rfl)))), h.r0.chg hc fun g e => hs g (.inr (.inr (.inr (.inl e)))), h.r1.chg hc fun g e => hs g (.inr (.inr (.inr (.inr (.inl e))))),
    h.r2.chg hc fun g e => hs g (.inr (.inr (.inr (.inr (.inr (.inl e)))))), h.r3.chg hc fun g e => hs g (.inr (.inr (.inr (.inr (.inr (.inr e)))))), h.apart⟩
theorem HeapIn.lt (h : HeapIn w H P b v0 v1 v2 v3 s) {k : Nat} (hk : Foot H P b v0 v1 v2 v3 k) : k < w.heap.size := by
  rcases hk with rfl | rfl | rfl | e | e | e | e
  · exact h.blk.lt
  · exact h.ar.head.lt
  · exact h.ar.row.lt
  · exact h.r0.lt e
  · exact h.r1.lt e
  · exact h.r2.lt e
  · exact h.r3.lt e
theorem HeapIn.on (h : HeapIn w H P b v0 v1 v2 v3 s) (hb : Below w.heap.size w x) : HeapIn x H P b v0 v1 v2 v3 s :=
  h.chg (S := fun _ => False) (Chg.of_below hb (Nat.le_refl _)) fun _ _ h => h
theorem HeapAt.chg (h : HeapAt w K H s) (hc : Chg S w x) (hs : ∀ k, K k → k < w.heap.size → ¬ S k) : HeapAt x K H s := by
  obtain ⟨P, b, v0, v1, v2, v3, h1, h2⟩ := h
  exact ⟨P, b, v0, v1, v2, v3, h1.chg hc fun k hk => hs k (h2 k hk) (h1.lt hk), h2⟩
theorem HeapAt.on (h : HeapAt w K H s) (hb : Below w.heap.size w x) : HeapAt x K H s := h.chg (S := fun _ => False) (Chg.of_below hb (Nat.le_refl _)) fun _ _ _ h => h
/-- Only what it has really counts. -/
theorem HeapAt.tight (h : HeapAt w K H s) : HeapAt w (fun k => K k ∧ k < w.heap.size) H s := by
  obtain ⟨P, b, v0, v1, v2, v3, h1, h2⟩ := h
  exact ⟨P, b, v0, v1, v2, v3, h1, fun k hk => ⟨h2 k hk, h1.lt hk⟩⟩
theorem Went.of_below (h : HeapAt w K H s) (hb : Below w.heap.size w x) : Went w K H s x := ⟨K, h.on hb, fun _ h => .inl h, Chg.of_below hb (Nat.le_refl _)⟩
theorem Went.trans {y : World} (h : Went w K H s1 x) (g : ∀ K', HeapAt x K' H s1 → Went x K' H s2 y) : Went w K H s2 y := by
  obtain ⟨K1, h1, h2, h3⟩ := h
  obtain ⟨K2, g1, g2, g3⟩ := g K1 h1
  refine ⟨K2, g1, fun k hk => ?_, h3.step g3 fun k hk => h2 k hk⟩
  rcases g2 k hk with e | e
  · exact h2 k e
  · exact .inr (Nat.le_trans h3.size e)
theorem Went.refl (h : HeapAt w K H s) : Went w K H s w := ⟨K, h, fun _ h => .inl h, Chg.refl _ _⟩
theorem Went.on {y : World} (h : Went w K H s x) (hb : Below x.heap.size x y) : Went w K H s y := h.trans fun _ h' => Went.of_below h' hb
theorem Went.size {y : World} (h : Went w K H s y) : w.heap.size ≤ y.heap.size := by obtain ⟨_, _, _, h⟩ := h; exact h.size
/-- Another heap, or any other block, is as it was. -/
theorem Went.far {L : Nat → Prop} {G : Nat} {r : Hp} (h : Went w K H s x) (g : HeapAt w L G r) (hd : ∀ k, L k → ¬ K k) : HeapAt x L G r := by
  obtain ⟨_, _, _, hc⟩ := h
  exact g.chg hc fun k hk _ => hd k hk
theorem Went.blk {y : World} {k : Nat} {cs : Array Value} {ty : TypeId} (h : Went w K H s y) (g : BlkIs w k cs ty) (hk : ¬ K k) : BlkIs y k cs ty := by
  obtain ⟨_, _, _, hc⟩ := h
  exact g.chg hc hk

/-- The four rows, by number. -/
def vsel (v0 v1 v2 v3 : Value) (i : Nat) : Value := if i = 0 then v0 else if i = 1 then v1 else if i = 2 then v2 else v3
def Hp.rows (s : Hp) (i : Nat) : List Nat := if i = 0 then s.pl 0 else if i = 1 then s.pl 1 else if i = 2 then s.wk else s.fi
theorem four {Q : Nat → Prop} (h0 : Q 0) (h1 : Q 1) (h2 : Q 2) (h3 : Q 3) : ∀ i, i < 4 → Q i := fun i hi => by
  rcases i with _ | _ | _ | _ | i
  · exact h0
  · exact h1
  · exact h2
  · exact h3
  · omega
theorem HeapIn.row (h : HeapIn w H P b v0 v1 v2 v3 s) : ∀ i, i < 4 → RowIs w (vsel v0 v1 v2 v3 i) (s.rows i) := four h.r0 h.r1 h.r2 h.r3
theorem HeapIn.far (h : HeapIn w H P b v0 v1 v2 v3 s) : ∀ i, i < 4 → ∀ j, j < 4 → i ≠ j → ∀ g, (vsel v0 v1 v2 v3 i).ownBlock = some g → (vsel v0 v1 v2 v3 j).ownBlock ≠ some g := by
  refine four ?_ ?_ ?_ ?_ <;> refine four ?_ ?_ ?_ ?_ <;> intro hij g e e' <;> have hg := h.apart g <;> simp only [vsel] at e e' <;> try exact hij rfl
  · exact (hg.1 e).1 e'
  · exact (hg.1 e).2.1 e'
  · exact (hg.1 e).2.2 e'
  · exact (hg.1 e').1 e
  · exact (hg.2.1 e).1 e'
  · exact (hg.2.1 e).2 e'
  · exact (hg.1 e').2.1 e
  · exact (hg.2.1 e').1 e
  · exact hg.2.2 e e'
  · exact (hg.1 e').2.2 e
  · exact (hg.2.1 e').2 e
  · exact hg.2.2 e' e
theorem foot_row {i : Nat} (hi : i < 4) {k : Nat} (e : (vsel v0 v1 v2 v3 i).ownBlock = some k) : Foot H P b v0 v1 v2 v3 k := by
  exact four (Q := fun i => (vsel v0 v1 v2 v3 i).ownBlock = some k → Foot H P b v0 v1 v2 v3 k) (fun e => .inr (.inr (.inr (.inl e)))) (fun e => .inr (.inr (.inr (.inr (.inl e)))))
    (fun e => .inr (.inr (.inr (.inr (.inr (.inl e)))))) (fun e => .inr (.inr (.inr (.inr (.inr (.inr e)))))) i hi e
theorem foot_of {k : Nat} (h : Foot H P b v0 v1 v2 v3 k) : k = H ∨ k = P ∨ k = b ∨ ∃ i, i < 4 ∧ (vsel v0 v1 v2 v3 i).ownBlock = some k := by
  rcases h with e | e | e | e | e | e | e
  · exact .inl e
  · exact .inr (.inl e)
  · exact .inr (.inr (.inl e))
  · exact .inr (.inr (.inr ⟨0, by omega, e⟩))
  · exact .inr (.inr (.inr ⟨1, by omega, e⟩))
  · exact .inr (.inr (.inr ⟨2, by omega, e⟩))
  · exact .inr (.inr (.inr ⟨3, by omega, e⟩))
theorem heapIn_of (hb : BlkIs w H (hpC P (s.base 0) s.z (s.top 0) (s.base 1) (s.top 1) v0 v1 s.u s.mv s.ow s.sc s.se v2 v3) 80) (ha : ArenaAt 146 w P b s.l) (hr : ∀ i, i < 4 → RowIs w (vsel v0 v1 v2 v3 i) (s.rows i))
    (hf : ∀ i, i < 4 → ∀ j, j < 4 → i ≠ j → ∀ g, (vsel v0 v1 v2 v3 i).ownBlock = some g → (vsel v0 v1 v2 v3 j).ownBlock ≠ some g) : HeapIn w H P b v0 v1 v2 v3 s :=
  ⟨hb, ha, hr 0 (by omega), hr 1 (by omega), hr 2 (by omega), hr 3 (by omega), fun g => ⟨fun e => ⟨hf 0 (by omega) 1 (by omega) (by omega) g e, hf 0 (by omega) 2 (by omega) (by omega) g e, hf 0 (by omega) 3 (by omega) (by omega) g e⟩,
    fun e => ⟨hf 1 (by omega) 2 (by omega) (by omega) g e, hf 1 (by omega) 3 (by omega) (by omega) g e⟩, fun e => hf 2 (by omega) 3 (by omega) (by omega) g e⟩⟩
theorem ne_of_types {k j : Nat} {cs ds : Array Value} {t u : TypeId} (h : BlkIs w k cs t) (g : BlkIs w j ds u) (ht : t ≠ u) : k ≠ j := fun e => by
  subst e
  unfold BlkIs at h g
  rw [h] at g
  injection g with g
  injection g with _ g
  exact ht g
/-- One row has become another one, and the struct with it. -/
theorem went_row {u0 u1 u2 u3 : Value} {s' : Hp} (h : HeapIn w H P b v0 v1 v2 v3 s) (hK : ∀ k, Foot H P b v0 v1 v2 v3 k → K k) (i : Nat) (hi : i < 4) (hl : s'.l = s.l) (hu : ∀ j, j < 4 → j ≠ i → vsel u0 u1 u2 u3 j = vsel v0 v1 v2 v3 j) (hrow : ∀ j, j < 4 → j ≠ i → s'.rows j = s.rows j)
    (hb : BlkIs x H (hpC P (s'.base 0) s'.z (s'.top 0) (s'.base 1) (s'.top 1) u0 u1 s'.u s'.mv s'.ow s'.sc s'.se u2 u3) 80) (hc : Chg (fun k => k = H ∨ some k = (vsel v0 v1 v2 v3 i).ownBlock) w x)
    (hr : RowIs x (vsel u0 u1 u2 u3 i) (s'.rows i)) (hat : (vsel u0 u1 u2 u3 i).ownBlock = (vsel v0 v1 v2 v3 i).ownBlock ∨ ∃ g, (vsel u0 u1 u2 u3 i).ownBlock = some g ∧ w.heap.size ≤ g) : Went w K H s' x := by
  have hin : HeapIn x H P b u0 u1 u2 u3 s' := by
    refine heapIn_of hb ?_ (fun j hj => ?_) fun j hj k hk hjk g e e' => ?_
    · rw [hl]
      have hrow := h.row i hi
      exact h.ar.chg hc (fun e => e.elim (fun e => ne_of_types h.ar.head h.blk (by decide) e) fun e => hrow.ne h.ar.head (by decide) e.symm) (fun e => e.elim (fun e => ne_of_types h.ar.row h.blk (by decide) e) fun e => hrow.ne h.ar.row (by decide) e.symm)
    · by_cases e : j = i
      · subst e; exact hr
      · rw [hu j hj e, hrow j hj e]
        exact (h.row j hj).chg hc fun g eg hS => hS.elim (fun e' => by subst e'; exact (h.row j hj).ne h.blk (by decide) eg) fun e' => h.far j hj i hi e g eg e'.symm
    · by_cases ej : j = i
      · subst ej
        rw [hu k hk fun e => hjk e.symm] at e'
        rcases hat with hat | ⟨g', hg, hlt⟩
        · rw [hat] at e; exact h.far j hj k hk hjk g e e'
        · rw [hg] at e
          injection e with e
          have := (h.row k hk).lt e'
          omega
      · rw [hu j hj ej] at e
        by_cases ek : k = i
        · subst ek
          rcases hat with hat | ⟨g', hg, hlt⟩
          · rw [hat] at e'; exact h.far j hj k hk hjk g e e'
          · rw [hg] at e'
            injection e' with e'
            have := (h.row j hj).lt e
            omega
        · rw [hu k hk ek] at e'
          exact h.far j hj k hk hjk g e e'
  refine ⟨fun k => K k ∨ w.heap.size ≤ k, ⟨P, b, u0, u1, u2, u3, hin, fun k hk => ?_⟩, fun k hk => hk, hc.mono fun k hk => ?_⟩
  · rcases foot_of hk with e | e | e | ⟨j, hj, e⟩
    · exact .inl (hK k (.inl e))
    · exact .inl (hK k (.inr (.inl e)))
    · exact .inl (hK k (.inr (.inr (.inl e))))
    · by_cases ej : j = i
      · subst ej
        rcases hat with hat | ⟨g', hg, hlt⟩
        · rw [hat] at e; exact .inl (hK k (foot_row hj e))
        · rw [hg] at e
          injection e with e
          exact .inr (by omega)
      · rw [hu j hj ej] at e
        exact .inl (hK k (foot_row hj e))
  · rcases hk with e | e
    · exact hK k (.inl e)
    · exact hK k (foot_row hi e.symm)
/-- Only the struct's numbers have turned. -/
theorem HeapIn.cells {s' : Hp} (h : HeapIn w H P b v0 v1 v2 v3 s) (hc : Chg (· = H) w x) (hl : s'.l = s.l) (hrow : ∀ j, j < 4 → s'.rows j = s.rows j)
    (hb : BlkIs x H (hpC P (s'.base 0) s'.z (s'.top 0) (s'.base 1) (s'.top 1) v0 v1 s'.u s'.mv s'.ow s'.sc s'.se v2 v3) 80) : HeapIn x H P b v0 v1 v2 v3 s' := by
  refine heapIn_of hb ?_ (fun j hj => ?_) h.far
  · rw [hl]
    exact h.ar.chg hc (fun e => ne_of_types h.ar.head h.blk (by decide) e) (fun e => ne_of_types h.ar.row h.blk (by decide) e)
  · rw [hrow j hj]
    exact (h.row j hj).chg hc fun g eg e' => by subst e'; exact (h.row j hj).ne h.blk (by decide) eg
theorem HeapIn.wentTo {s' : Hp} (h : HeapIn x H P b v0 v1 v2 v3 s') (hK : ∀ k, Foot H P b v0 v1 v2 v3 k → K k) (hc : Chg (fun k => k = H ∨ k = b) w x) : Went w K H s' x :=
  ⟨K, ⟨P, b, v0, v1, v2, v3, h, hK⟩, fun _ h => .inl h, hc.mono fun k e => e.elim (fun e => hK k (.inl e)) fun e => hK k (.inr (.inr (.inl e)))⟩

/-- The sixteen cells. -/
theorem BlkIs.facts16 {k : Nat} {a0 a1 a2 a3 a4 a5 a6 a7 a8 a9 aa ab ac ad ae af : Value} {ty : TypeId} (h : BlkIs w k #[a0, a1, a2, a3, a4, a5, a6, a7, a8, a9, aa, ab, ac, ad, ae, af] ty) :
    w.cell? ⟨k, 0, none⟩ = some a0 ∧ w.cell? ⟨k, 1, none⟩ = some a1 ∧ w.cell? ⟨k, 2, none⟩ = some a2 ∧ w.cell? ⟨k, 3, none⟩ = some a3 ∧ w.cell? ⟨k, 4, none⟩ = some a4 ∧ w.cell? ⟨k, 5, none⟩ = some a5 ∧ w.cell? ⟨k, 6, none⟩ = some a6 ∧ w.cell? ⟨k, 7, none⟩ = some a7 ∧
    w.cell? ⟨k, 8, none⟩ = some a8 ∧ w.cell? ⟨k, 9, none⟩ = some a9 ∧ w.cell? ⟨k, 10, none⟩ = some aa ∧ w.cell? ⟨k, 11, none⟩ = some ab ∧ w.cell? ⟨k, 12, none⟩ = some ac ∧ w.cell? ⟨k, 13, none⟩ = some ad ∧ w.cell? ⟨k, 14, none⟩ = some ae ∧ w.cell? ⟨k, 15, none⟩ = some af :=
  ⟨h.cell 0, h.cell 1, h.cell 2, h.cell 3, h.cell 4, h.cell 5, h.cell 6, h.cell 7, h.cell 8, h.cell 9, h.cell 10, h.cell 11, h.cell 12, h.cell 13, h.cell 14, h.cell 15⟩
/-- The arena's words turn. -/
theorem HeapIn.put (h : HeapIn w H P b v0 v1 v2 v3 s) {l : List Int} (hA : ArenaAt 146 x P b l) (hc : Chg (· = b) w x) : HeapIn x H P b v0 v1 v2 v3 { s with l := l } := by
  have hHb : ¬ H = b := fun e => by
    have h1 := h.blk
    have h2 := h.ar.row
    unfold BlkIs at h1 h2
    rw [e, h2] at h1
    injection h1 with h1
    injection h1 with _ h1
    exact absurd h1 (by decide)
  have hr : ∀ {v : Value} {l : List Nat}, RowIs w v l → RowIs x v l := fun {v l} hv => hv.chg hc fun g e e' => by
    subst e'
    exact hv.ne h.ar.row (by decide) e
  exact ⟨h.blk.chg hc hHb, hA, hr h.r0, hr h.r1, hr h.r2, hr h.r3, h.apart⟩
theorem HeapIn.went (h : HeapIn w H P b v0 v1 v2 v3 s) (hK : ∀ k, Foot H P b v0 v1 v2 v3 k → K k) {l : List Int} (hA : ArenaAt 146 x P b l) (hc : Chg (· = b) w x) : Went w K H { s with l := l } x :=
  ⟨K, ⟨P, b, v0, v1, v2, v3, h.put hA hc, hK⟩, fun _ h => .inl h, hc.mono fun k e => by subst e; exact hK _ (.inr (.inr (.inl rfl)))⟩
end

end Go.Proofs.YtbjmeibcphmgbaaGreat

namespace Go.Proofs.YtbjmeibcphmgbaaGreat
open Go.ChangeShapes Go.WideShapes Go.ChangeAt Go.RowKit

set_option linter.unusedSimpArgs false
set_option linter.unusedVariables false

section
variable {w : World} {H P b : Nat} {v0 v1 v2 v3 : Value} {s : Hp}

theorem old_any (h : HeapIn w H P b v0 v1 v2 v3 s) (hu : s.u = 0 ∨ s.u = 1) : Calls Tryz.prog 49 #[.pointer (some ⟨H, 0, none⟩)] w fun e w' => e = .returned (.int .i64 ((1 - s.u : Nat) : Int)) ∧ Below w.heap.size w w' := by
  have c9 : w.cell? ⟨H, 9, none⟩ = some (.int .i64 s.u) := h.blk.cell 9
  clear h
  generalize s.u = u at *
  rcases hu with rfl | rfl <;>
  · go_enter Tryz.func49, Tryz.ntmps49
    go_wp2
    go_ret
    exact ⟨by simp, Below.refl _ _⟩

theorem moving_any (h : HeapIn w H P b v0 v1 v2 v3 s) : Calls Tryz.prog 21 #[.pointer (some ⟨H, 0, none⟩)] w fun e w' => e = .returned (.bool s.mv) ∧ Below w.heap.size w w' := by
  have c9 : w.cell? ⟨H, 10, none⟩ = some (.bool s.mv) := h.blk.cell 10
  clear h
  go_enter Tryz.func21, Tryz.ntmps21
  go_wp2
  go_ret
  exact ⟨rfl, Below.refl _ _⟩

theorem has_at (h : HeapIn w H P b v0 v1 v2 v3 s) (i : Nat) (t : Int) (hi : i = 0 ∨ i = 1) (hs : Rises (nums (s.pl i))) (hl : (s.pl i).length ≤ 100000) :
    Calls Tryz.prog 50 #[.pointer (some ⟨H, 0, none⟩), .int .i64 i, .int .i64 t] w fun e w' => e = .returned (.bool (decide (t ∈ nums (s.pl i)))) ∧ Below w.heap.size w w' := by
  have c7 : w.cell? ⟨H, 7, none⟩ = some v0 := h.blk.cell 7
  have c8 : w.cell? ⟨H, 8, none⟩ = some v1 := h.blk.cell 8
  have e0 := h.r0.reads
  have e1 := h.r1.reads
  clear h
  rcases hi with rfl | rfl
  · have M := search_any v0 _ t w e0 hs (by rw [nums_length]; exact hl)
    clear e0 e1
    go_enter Tryz.func50, Tryz.ntmps50
    go_wp2_with fail
    refine M.mono ?_
    rintro e x ⟨⟨i, rfl⟩, hb⟩
    go_wp2
    go_ret
    exact ⟨rfl, hb⟩
  · have M := search_any v1 _ t w e1 hs (by rw [nums_length]; exact hl)
    clear e0 e1
    go_enter Tryz.func50, Tryz.ntmps50
    go_wp2_with fail
    refine M.mono ?_
    rintro e x ⟨⟨i, rfl⟩, hb⟩
    go_wp2
    go_ret
    exact ⟨rfl, hb⟩

/-- Five cells of a block, and what lies behind. -/
abbrev Cs5 (w x : World) (H i0 i1 i2 i3 i4 : Nat) (a0 a1 a2 a3 a4 : Value) : Prop :=
  x.cell? ⟨H, i0, none⟩ = some a0 ∧ x.cell? ⟨H, i1, none⟩ = some a1 ∧ x.cell? ⟨H, i2, none⟩ = some a2 ∧ x.cell? ⟨H, i3, none⟩ = some a3 ∧ x.cell? ⟨H, i4, none⟩ = some a4 ∧ H < x.heap.size ∧ Below w.heap.size w x
theorem Cs5.on {w x y : World} {H i0 i1 i2 i3 i4 : Nat} {a0 a1 a2 a3 a4 : Value} (h : Cs5 w x H i0 i1 i2 i3 i4 a0 a1 a2 a3 a4) (hb : Below x.heap.size x y) : Cs5 w y H i0 i1 i2 i3 i4 a0 a1 a2 a3 a4 := by
  obtain ⟨c0, c1, c2, c3, c4, hl, hB⟩ := h
  have e : ∀ j, y.cell? ⟨H, j, none⟩ = x.cell? ⟨H, j, none⟩ := fun j => hb.cell (p := ⟨H, j, none⟩) hl
  exact ⟨(e _).trans c0, (e _).trans c1, (e _).trans c2, (e _).trans c3, (e _).trans c4, Nat.lt_of_lt_of_le hl hb.size, hB.trans (hb.mono hB.size)⟩
theorem Cs5.drew {w x : World} {H i0 i1 i2 i3 i4 : Nat} {a0 a1 a2 a3 a4 : Value} (h : Cs5 w x H i0 i1 i2 i3 i4 a0 a1 a2 a3 a4) : Cs5 w x.drew H i0 i1 i2 i3 i4 a0 a1 a2 a3 a4 := by
  obtain ⟨c0, c1, c2, c3, c4, hl, hB⟩ := h
  exact ⟨c0, c1, c2, c3, c4, hl, hB.drew⟩

/-- What the reading calls ask of a heap. -/
structure Sound (s : Hp) : Prop where
  u01 : s.u = 0 ∨ s.u = 1
  z1 : s.z ≤ 16384
  rn : Rises (nums s.pn)
  rk : Rises (nums s.pk)
  ln : s.pn.length ≤ 16384
  lk : s.pk.length ≤ 16384
  t0 : s.bn ≤ s.tn
  t1 : s.tn + s.ow ≤ s.bn + s.z
  k0 : s.bk ≤ s.tk
  k1 : s.tk ≤ s.bk + s.z
theorem Sound.pl_n (g : Sound s) : s.pl s.u = s.pn := if_pos rfl
theorem Sound.pl_k (g : Sound s) : s.pl (1 - s.u) = s.pk := if_neg (by have := g.u01; omega)

theorem here_any (h : HeapIn w H P b v0 v1 v2 v3 s) (g : Sound s) (t : Int) :
    Calls Tryz.prog 27 #[.pointer (some ⟨H, 0, none⟩), .int .i64 t] w fun e w' => e = .returned (.bool (decide (t ∈ nums s.pn))) ∧ Below w.heap.size w w' := by
  have c9 : w.cell? ⟨H, 9, none⟩ = some (.int .i64 s.u) := h.blk.cell 9
  have M := has_at h s.u t g.u01 (by rw [g.pl_n]; exact g.rn) (by rw [g.pl_n]; have := g.ln; omega)
  rw [g.pl_n] at M
  clear h g
  go_enter Tryz.func27, Tryz.ntmps27
  go_wp2_with fail
  refine M.mono ?_
  rintro e x ⟨rfl, hb⟩
  go_wp2
  go_ret
  exact ⟨rfl, hb⟩

theorem may_any (h : HeapIn w H P b v0 v1 v2 v3 s) (g : Sound s) (t : Int) :
    Calls Tryz.prog 61 #[.pointer (some ⟨H, 0, none⟩), .int .i64 t] w fun e w' => e = .returned (.bool (decide (t = 0 ∨ t ∈ nums s.pn))) ∧ Below w.heap.size w w' := by
  have M := here_any h g t
  clear h g
  by_cases e0 : t = 0
  · subst e0
    rw [decide_eq_true (.inl rfl)]
    go_enter Tryz.func61, Tryz.ntmps61
    go_wp2
    go_ret
    exact ⟨rfl, Below.refl _ _⟩
  · have d0 : (t == 0) = false := by simpa using e0
    rw [show decide (t = 0 ∨ t ∈ nums s.pn) = decide (t ∈ nums s.pn) from by simp [e0]]
    go_enter Tryz.func61, Tryz.ntmps61
    go_wp2_with fail
    refine M.mono ?_
    rintro e x ⟨rfl, hb⟩
    go_wp2
    go_ret
    exact ⟨rfl, hb⟩

theorem scanned_any (h : HeapIn w H P b v0 v1 v2 v3 s) (g : Sound s) :
    Calls Tryz.prog 53 #[.pointer (some ⟨H, 0, none⟩)] w fun e w' => e = .returned (.bool (decide (s.sc = s.tn))) ∧ Below w.heap.size w w' := by
  have c9 : w.cell? ⟨H, 9, none⟩ = some (.int .i64 s.u) := h.blk.cell 9
  have c3 : w.cell? ⟨H, 3, none⟩ = some (.int .i64 (s.top 0)) := h.blk.cell 3
  have c6 : w.cell? ⟨H, 6, none⟩ = some (.int .i64 (s.top 1)) := h.blk.cell 6
  have c12 : w.cell? ⟨H, 12, none⟩ = some (.int .i64 s.sc) := h.blk.cell 12
  have hu := g.u01
  have ht : s.tn = s.top s.u := (if_pos rfl).symm
  rw [ht]
  clear h g ht
  generalize s.u = u at *
  have key : ∀ a b : Nat, ((a : Int) == (b : Int)) = decide (a = b) := fun a b => by
    by_cases e : a = b
    · subst e; simp
    · rw [decide_eq_false e]; simp; omega
  rcases hu with rfl | rfl
  · go_enter Tryz.func53, Tryz.ntmps53
    go_upto_region 1 with fail
    go_quiet (fail)
    go_wp2
    go_ret
    exact ⟨by simp [key], drewN_below (Below.refl _ _) _⟩
  · go_enter Tryz.func53, Tryz.ntmps53
    go_upto_region 1 with fail
    go_quiet (fail)
    go_wp2
    go_ret
    exact ⟨by simp [key], drewN_below (Below.refl _ _) _⟩

theorem room_any (h : HeapIn w H P b v0 v1 v2 v3 s) (g : Sound s) :
    Calls Tryz.prog 24 #[.pointer (some ⟨H, 0, none⟩)] w fun e w' => e = .returned (.int .i64 s.room) ∧ Below w.heap.size w w' := by
  have hB := h.blk
  have hT : ((s.base s.u + s.z - s.top s.u - s.ow : Nat) : Int) = ((s.base s.u + s.z - s.top s.u : Nat) : Int) - (s.ow : Int) := by have := g.t1; have ht : s.tn = s.top s.u := (if_pos rfl).symm; have hb : s.bn = s.base s.u := rfl; omega
  have hSp : SpOk (s.base s.u) s.z (s.top s.u) := by
    have ht : s.tn = s.top s.u := (if_pos rfl).symm
    have hb : s.bn = s.base s.u := rfl
    have := g.t0; have := g.t1; have := g.z1
    exact ⟨by unfold Hp.base; split <;> omega, by omega, by omega, by omega⟩
  have hL := left_ok _ _ _ hSp
  have hrm : s.room = s.base s.u + s.z - s.top s.u - s.ow := by unfold Hp.room Hp.bn Hp.top; rw [if_pos rfl]
  rw [hrm, hT]
  have h65 : s.base s.u + s.z - s.top s.u ≤ 65536 ∧ s.ow ≤ 65536 := by have := g.t1; have := g.z1; have := hSp.base; have := hSp.low; have ht : s.tn = s.top s.u := (if_pos rfl).symm; have hb : s.bn = s.base s.u := rfl; omega
  have hu := g.u01
  have hi : IntKind.i64.wrap (((s.base s.u + s.z - s.top s.u : Nat) : Int) - (s.ow : Int)) = ((s.base s.u + s.z - s.top s.u : Nat) : Int) - (s.ow : Int) := IntWalk.i64_in _ (by omega)
  obtain ⟨c0, c1, c2, c3, c4, c5, c6, c7, c8, c9, ca, cb, cc, cd, ce, cf⟩ := BlkIs.facts16 hB
  have hl := hB.lt
  clear h g hT hSp hrm hB
  generalize s.u = u at *
  rcases hu with rfl | rfl
  · generalize s.base 0 + s.z - s.top 0 = q at *
    generalize s.base 0 = b0 at *
    generalize s.top 0 = t0 at *
    have hS0 : Cs5 w w H 1 2 3 9 11 _ _ _ _ _ := ⟨c1, c2, c3, c9, cb, hl, Below.refl _ w⟩
    clear c0 c1 c2 c3 c4 c5 c6 c7 c8 c9 ca cb cc cd ce cf
    go_enter Tryz.func24, Tryz.ntmps24
    go_upto_region 1 with fail
    go_region_held3 (fun x => Cs5 w x H 1 2 3 9 11 (.int .i64 b0) (.int .i64 s.z) (.int .i64 t0) (.int .i64 (0 : Nat)) (.int .i64 s.ow)) (first | exact hS0.drew | exact Cs5.on (by assumption) hb2)
      (first | (go_at_call 65; refine (hL _).mono ?_; rintro e w2 ⟨rfl, hb2⟩))
    go_wp2
    go_ret
    exact ⟨rfl, (‹Cs5 w _ _ _ _ _ _ _ _ _ _ _ _›).2.2.2.2.2.2⟩
  · generalize s.base 1 + s.z - s.top 1 = q at *
    generalize s.base 1 = b0 at *
    generalize s.top 1 = t0 at *
    have hS0 : Cs5 w w H 4 5 6 9 11 _ _ _ _ _ := ⟨c4, c5, c6, c9, cb, hl, Below.refl _ w⟩
    clear c0 c1 c2 c3 c4 c5 c6 c7 c8 c9 ca cb cc cd ce cf
    go_enter Tryz.func24, Tryz.ntmps24
    go_upto_region 1 with fail
    go_region_held3 (fun x => Cs5 w x H 4 5 6 9 11 (.int .i64 b0) (.int .i64 s.z) (.int .i64 t0) (.int .i64 (1 : Nat)) (.int .i64 s.ow)) (first | exact hS0.drew | exact Cs5.on (by assumption) hb2)
      (first | (go_at_call 65; refine (hL _).mono ?_; rintro e w2 ⟨rfl, hb2⟩))
    go_wp2
    go_ret
    exact ⟨rfl, (‹Cs5 w _ _ _ _ _ _ _ _ _ _ _ _›).2.2.2.2.2.2⟩
end

end Go.Proofs.YtbjmeibcphmgbaaGreat

namespace Go.Proofs.YtbjmeibcphmgbaaGreat
open Go.ChangeShapes Go.WideShapes Go.ChangeAt Go.RowKit

set_option linter.unusedSimpArgs false
set_option linter.unusedVariables false

section
variable {l l' : List Int} {a x : Nat}
theorem hdW_congr (h : l'.getD x 0 = l.getD x 0) : hdW l' x = hdW l x := by unfold hdW; rw [h]
theorem nA_congr (h : l'.getD x 0 = l.getD x 0) : nA l' x = nA l x := by unfold nA; rw [hdW_congr h]
theorem szA_congr (h : l'.getD x 0 = l.getD x 0) : szA l' x = szA l x := by unfold szA; rw [nA_congr h]
theorem isOb_congr (hl : l'.length = l.length) (h : l'.getD x 0 = l.getD x 0) : isOb l' x ↔ isOb l x :=
  ⟨fun ⟨p, d, wk, fn, fr, o⟩ => ⟨p, d, wk, fn, fr, o.same hl.symm h.symm⟩, fun ⟨p, d, wk, fn, fr, o⟩ => ⟨p, d, wk, fn, fr, o.same hl h⟩⟩
theorem fwd_congr (h : l'.getD x 0 = l.getD x 0) : fwd l' x = fwd l x := by unfold fwd; rw [hdW_congr h]
theorem hdW_obj {p d : Nat} {wk fn fr : Bool} (h : ObjIs l a p d wk fn fr) : hdW l a = headN p d wk fn fr ∧ hp (hdW l a) = p ∧ hd (hdW l a) = d ∧ hw (hdW l a) = wk ∧ hf (hdW l a) = fn ∧ hr (hdW l a) = fr := by
  have e : hdW l a = headN p d wk fn fr := by unfold hdW; rw [h.head, Int.toNat_natCast]
  rw [e]
  exact ⟨rfl, headN_read h.ptrs h.data⟩
theorem nA_obj {p d : Nat} {wk fn fr : Bool} (h : ObjIs l a p d wk fn fr) : nA l a = 3 + p + d := by
  unfold nA
  obtain ⟨_, h1, h2, _⟩ := hdW_obj h
  rw [h1, h2]
theorem isOb.of (h : isOb l a) : ObjIs l a (hp (hdW l a)) (hd (hdW l a)) (hw (hdW l a)) (hf (hdW l a)) (hr (hdW l a)) := by
  obtain ⟨p, d, wk, fn, fr, o⟩ := h
  obtain ⟨_, h1, h2, h3, h4, h5⟩ := hdW_obj o
  rw [h1, h2, h3, h4, h5]
  exact o
theorem isOb.nA_le (h : isOb l a) : 3 ≤ nA l a ∧ nA l a ≤ 19 ∧ nA l a ≤ szA l a ∧ szA l a ≤ 28 ∧ a + nA l a ≤ l.length ∧ hp (hdW l a) ≤ 8 ∧ hd (hdW l a) ≤ 8 := by
  have o := h.of
  have h1 := o.ptrs
  have h2 := o.data
  have h3 := o.room
  have h4 : nA l a ≤ szA l a := Cls.rd_ge (by unfold nA; omega)
  have h5 : 2 * szA l a ≤ 3 * nA l a := Cls.rd_half (by unfold nA; omega) (by unfold nA; omega)
  unfold nA at *
  refine ⟨by omega, by omega, h4, by omega, by omega, h1, h2⟩
theorem szA_pos : 4 ≤ szA l a := rd_pos _
theorem isOb.odd (h : isOb l a) : hdW l a % 2 = 1 := by
  obtain ⟨p, d, wk, fn, fr, o⟩ := h
  rw [(hdW_obj o).1]
  unfold headN
  omega
theorem isOb.fwd (h : isOb l a) : fwd l a = a := by
  have := h.odd
  unfold Go.Proofs.YtbjmeibcphmgbaaGreat.fwd
  rw [if_neg (by omega)]
theorem gone_hdW {n : Nat} (h : l.getD a 0 = ((2 + n * 4 : Nat) : Int)) : hdW l a = 2 + n * 4 := by unfold hdW; rw [h, Int.toNat_natCast]
theorem gone_fwd {n : Nat} (h : l.getD a 0 = ((2 + n * 4 : Nat) : Int)) : fwd l a = n ∧ hdW l a % 2 = 0 ∧ ¬ isOb l a := by
  have e := gone_hdW h
  refine ⟨by unfold fwd; rw [e, if_pos (by omega)]; omega, by omega, fun ho => ?_⟩
  have := ho.odd
  omega
end

/-- There is an object that has not gone. -/
def Live (s : Hp) (x : Nat) : Prop := x ∈ s.pn ∨ (x ∈ s.pk ∧ isOb s.l x)
/-- A pointer that may be. -/
def PtrOk (s : Hp) (v : Int) : Prop := v = 0 ∨ ∃ y : Nat, v = (y : Int) ∧ (y ∈ s.pn ∨ y ∈ s.pk)
def ows (l : List Int) (x : Nat) : Nat := if hdW l x % 2 = 1 then szA l x else 0

structure Okw (s : Hp) : Prop where
  u01 : s.u = 0 ∨ s.u = 1
  z0 : 16 ≤ s.z
  z1 : s.z ≤ 16384
  len : s.l.length = 2 * s.z + 1
  zero : s.l.getD 0 0 = 0
  k0 : s.bk ≤ s.tk
  k1 : s.tk ≤ s.bk + s.z
  room : s.tn + s.ow ≤ s.bn + s.z
  sum : s.tn = s.bn + (s.pn.map (szA s.l)).sum
  owe : s.ow = (s.pk.map (ows s.l)).sum
  inn : ∀ x ∈ s.pn, s.bn ≤ x ∧ isOb s.l x ∧ x + szA s.l x ≤ s.tn
  ink : ∀ x ∈ s.pk, s.bk ≤ x ∧ x < s.tk ∧ ((isOb s.l x ∧ x + szA s.l x ≤ s.tk) ∨ ∃ n ∈ s.pn, s.l.getD x 0 = ((2 + n * 4 : Nat) : Int))
  srn : s.pn.Pairwise fun x y => x + szA s.l x ≤ y
  srk : s.pk.Pairwise fun x y => x < y ∧ (isOb s.l x → x + szA s.l x ≤ y)
  fst : s.tn = s.bn ∨ s.bn ∈ s.pn
  nxt : ∀ x ∈ s.pn, x + szA s.l x = s.tn ∨ x + szA s.l x ∈ s.pn
  stop : s.mv = false → s.pk = [] ∧ s.tk = s.bk
  sel : s.se ≤ 1099511627776
  ser : ∀ x, Live s x → 1 ≤ s.l.getD (x + 2) 0 ∧ s.l.getD (x + 2) 0 ≤ s.se
  ptr : ∀ x, Live s x → ∀ i, i < hp (hdW s.l x) → PtrOk s (s.l.getD (x + (3 + i)) 0)
  blk : s.mv = true → ∀ x ∈ s.pn, x < s.sc → hw (hdW s.l x) = false → ∀ i, i < hp (hdW s.l x) → s.l.getD (x + (3 + i)) 0 = 0 ∨ ∃ y ∈ s.pn, s.l.getD (x + (3 + i)) 0 = ((y : Nat) : Int)
  scn : s.mv = true → s.sc = s.tn ∨ s.sc ∈ s.pn
  wks : ∀ a ∈ s.wk, (a ∈ s.pn ∨ a ∈ s.pk) ∧ hw (hdW s.l (fwd s.l a)) = true
  wka : ∀ x ∈ s.pn, hw (hdW s.l x) = true → ∃ a ∈ s.wk, fwd s.l a = x
  fin : ∀ a ∈ s.fi, a ∈ s.pn ∨ a ∈ s.pk
  wkl : s.wk.length ≤ s.se
  fil : s.fi.length ≤ s.se
/-- Besides, all weak ones that have not gone are on the list. -/
structure Ok (s : Hp) : Prop extends Okw s where
  wkb : ∀ x ∈ s.pk, isOb s.l x → hw (hdW s.l x) = true → ∃ a ∈ s.wk, fwd s.l a = x
theorem Ok.wkAll {s : Hp} (h : Ok s) : ∀ x, Live s x → hw (hdW s.l x) = true → ∃ a ∈ s.wk, fwd s.l a = x :=
  fun x hx hw => hx.elim (fun e => h.wka x e hw) fun e => h.wkb x e.1 e.2 hw

theorem pairwise_get {R : Nat → Nat → Prop} {l : List Nat} (h : l.Pairwise R) {x y : Nat} (hx : x ∈ l) (hy : y ∈ l) : x = y ∨ R x y ∨ R y x := by
  induction l with
  | nil => simp at hx
  | cons z l ih =>
    rw [List.pairwise_cons] at h
    rcases List.mem_cons.1 hx with rfl | hx' <;> rcases List.mem_cons.1 hy with rfl | hy'
    · exact .inl rfl
    · exact .inr (.inl (h.1 _ hy'))
    · exact .inr (.inr (h.1 _ hx'))
    · exact ih h.2 hx' hy'
theorem pairwise_congr {R Q : Nat → Nat → Prop} {l : List Nat} (h : l.Pairwise R) (g : ∀ x ∈ l, ∀ y ∈ l, R x y → Q x y) : l.Pairwise Q := by
  induction l with
  | nil => exact List.Pairwise.nil
  | cons z l ih =>
    rw [List.pairwise_cons] at h ⊢
    exact ⟨fun y hy => g z List.mem_cons_self y (List.mem_cons_of_mem _ hy) (h.1 y hy), ih h.2 fun x hx y hy => g x (List.mem_cons_of_mem _ hx) y (List.mem_cons_of_mem _ hy)⟩
theorem rises_of {l : List Nat} (h : l.Pairwise fun x y => x < y) : Rises (nums l) := by
  intro i j hij hj
  rw [nums_length] at hj
  rw [nums_getD (by omega), nums_getD hj]
  have := List.pairwise_iff_getElem.1 h i j (by omega) hj hij
  simp [List.getD, show i < l.length by omega, hj]
  exact this
theorem rises_len {l : List Nat} {b t : Nat} (h : l.Pairwise fun x y => x < y) (hb : ∀ x ∈ l, b ≤ x ∧ x < t) : l.length ≤ t - b := by
  induction l generalizing b with
  | nil => simp
  | cons z l ih =>
    rw [List.pairwise_cons] at h
    have h1 := hb z List.mem_cons_self
    have := ih (b := z + 1) h.2 fun x hx => ⟨h.1 x hx, (hb x (List.mem_cons_of_mem _ hx)).2⟩
    simp
    omega
theorem sum_pos {l : List Nat} {f : Nat → Nat} (h : ∀ x ∈ l, 4 ≤ f x) : 4 * l.length ≤ (l.map f).sum := by
  induction l with
  | nil => simp
  | cons z l ih =>
    have h1 := h z List.mem_cons_self
    have := ih fun x hx => h x (List.mem_cons_of_mem _ hx)
    simp
    omega
theorem sum_congr {l : List Nat} {f g : Nat → Nat} (h : ∀ x ∈ l, f x = g x) : (l.map f).sum = (l.map g).sum := by rw [List.map_congr_left h]
theorem sum_one {l : List Nat} {f g : Nat → Nat} {p : Nat} (hn : l.Nodup) (hp : p ∈ l) (h : ∀ x ∈ l, x ≠ p → f x = g x) (h0 : f p = 0) : (l.map f).sum + g p = (l.map g).sum := by
  induction l with
  | nil => simp at hp
  | cons z l ih =>
    rw [List.nodup_cons] at hn
    simp only [List.map_cons, List.sum_cons]
    rcases List.mem_cons.1 hp with rfl | hp'
    · rw [h0, sum_congr fun x hx => h x (List.mem_cons_of_mem _ hx) fun e => hn.1 (by rw [← e]; exact hx)]
      omega
    · have := ih hn.2 hp' fun x hx => h x (List.mem_cons_of_mem _ hx)
      rw [h z List.mem_cons_self fun e => hn.1 (by rw [e]; exact hp')]
      omega

section
variable {s : Hp} (h : Okw s)
include h
theorem Okw.bases : 1 ≤ s.bn ∧ s.bn ≤ 1 + s.z ∧ 1 ≤ s.bk ∧ s.bk ≤ 1 + s.z ∧ (s.bn + s.z ≤ s.bk ∨ s.bk + s.z ≤ s.bn) := by
  have := h.u01
  unfold Hp.bn Hp.bk Hp.base
  rcases this with e | e <;> rw [e] <;> simp <;> omega
theorem Okw.t0 : s.bn ≤ s.tn := by have := h.sum; omega
theorem Okw.rn : s.pn.Pairwise fun x y => x < y := pairwise_congr h.srn fun x _ y _ e => by have := szA_pos (l := s.l) (a := x); omega
theorem Okw.rk : s.pk.Pairwise fun x y => x < y := pairwise_congr h.srk fun x _ y _ e => e.1
theorem Okw.ln : s.pn.length ≤ 4096 := by
  have h1 := sum_pos (l := s.pn) (f := szA s.l) fun x _ => szA_pos
  have := h.sum; have := h.room; have := h.z1
  omega
theorem Okw.lk : s.pk.length ≤ 16384 := by
  have h1 := rises_len h.rk fun x hx => ⟨(h.ink x hx).1, (h.ink x hx).2.1⟩
  have := h.k1; have := h.z1
  omega
theorem Okw.sound : Sound s := ⟨h.u01, h.z1, rises_of h.rn, rises_of h.rk, by have := h.ln; omega, h.lk, h.t0, h.room, h.k0, h.k1⟩
theorem Okw.live_ob {x : Nat} (hx : Live s x) : isOb s.l x := hx.elim (fun e => (h.inn x e).2.1) fun e => e.2
theorem Okw.pn_lt {x : Nat} (hx : x ∈ s.pn) : 1 ≤ x ∧ x < s.tn ∧ x < s.l.length := by
  obtain ⟨h1, h2, h3⟩ := h.inn x hx
  have := h2.nA_le; have := h.bases
  omega
theorem Okw.pk_lt {x : Nat} (hx : x ∈ s.pk) : 1 ≤ x ∧ x < s.l.length := by
  obtain ⟨h1, h2, _⟩ := h.ink x hx
  have := h.bases; have := h.k1; have := h.len
  omega
/-- A live object of the old space has room in the other one. -/
theorem Okw.fits {p : Nat} (hp : p ∈ s.pk) (ho : isOb s.l p) : s.tn + szA s.l p ≤ s.bn + s.z ∧ szA s.l p ≤ s.ow := by
  have hn : s.pk.Nodup := h.rk.imp fun e => by omega
  have h1 := sum_one (f := fun x => if x = p then 0 else ows s.l x) (g := ows s.l) hn hp (fun x _ e => if_neg e) (if_pos rfl)
  have h2 : ows s.l p = szA s.l p := if_pos ho.odd
  have := h.owe; have := h.room
  omega
/-- Old and new apart. -/
theorem Okw.apart {x y : Nat} (hx : s.bn ≤ x ∧ x < s.bn + s.z) (hy : s.bk ≤ y ∧ y < s.bk + s.z) : x ≠ y := by
  have := h.bases
  omega
end

end Go.Proofs.YtbjmeibcphmgbaaGreat

namespace Go.Proofs.YtbjmeibcphmgbaaGreat
open Go.ChangeShapes Go.WideShapes Go.ChangeAt Go.RowKit

set_option linter.unusedSimpArgs false
set_option linter.unusedVariables false

section
variable {s : Hp}
theorem Okw.go_key (h : Okw s) {p : Nat} (hp' : p ∈ s.pk) (ho : isOb s.l p) {j : Nat} (hj : j < s.l.length) : (s.go p).l.getD j 0 = if j = p then ((2 + s.tn * 4 : Nat) : Int) else if s.tn ≤ j ∧ j < s.tn + nA s.l p then s.l.getD (p + (j - s.tn)) 0 else s.l.getD j 0 := copyL_at hj
theorem Okw.go_len (h : Okw s) {p : Nat} (hp' : p ∈ s.pk) (ho : isOb s.l p) : (s.go p).l.length = s.l.length := copyL_length ..
end
section
variable {s : Hp} (h : Okw s) {p : Nat} (hp' : p ∈ s.pk) (ho : isOb s.l p)
include h hp' ho
theorem Okw.go_place : s.bn ≤ s.tn ∧ s.tn + nA s.l p ≤ s.bn + s.z ∧ s.bn + s.z ≤ s.l.length ∧ s.bk ≤ p ∧ p + nA s.l p ≤ s.tk ∧ s.tk ≤ s.bk + s.z ∧ s.bk + s.z ≤ s.l.length ∧ nA s.l p ≤ szA s.l p ∧ p < s.tk ∧ 3 ≤ nA s.l p := by
  have h1 := h.t0
  have h2 := h.fits hp' ho
  have h3 := ho.nA_le
  have h4 := h.bases
  have h5 := h.len
  have h6 := h.k1
  obtain ⟨h7, h8, h9⟩ := h.ink p hp'
  rcases h9 with ⟨_, h9⟩ | ⟨n, _, h9⟩
  · refine ⟨h1, by omega, by omega, h7, by omega, h6, by omega, by omega, h8, by omega⟩
  · exact absurd ho (gone_fwd h9).2.2
/-- In the space in use nothing turns. -/
theorem Okw.go_pn {x t : Nat} (hx : x ∈ s.pn) (ht : t < nA s.l x) : (s.go p).l.getD (x + t) 0 = s.l.getD (x + t) 0 := by
  obtain ⟨h1, h2, h3⟩ := h.inn x hx
  have h4 := h2.nA_le
  have h5 := h.go_place hp' ho
  have h6 := h.bases
  rw [h.go_key hp' ho (by omega), if_neg (by omega), if_neg (by omega)]
theorem Okw.go_pn0 {x : Nat} (hx : x ∈ s.pn) : (s.go p).l.getD x 0 = s.l.getD x 0 := by
  have := ((h.inn x hx).2.1).nA_le
  exact h.go_pn hp' ho (t := 0) hx (by omega)
/-- Nor in the old one, but there. -/
theorem Okw.go_pk0 {x : Nat} (hx : x ∈ s.pk) (hne : x ≠ p) : (s.go p).l.getD x 0 = s.l.getD x 0 := by
  obtain ⟨h1, h2, _⟩ := h.ink x hx
  have h5 := h.go_place hp' ho
  have h6 := h.bases
  rw [h.go_key hp' ho (by omega), if_neg hne, if_neg (by omega)]
theorem Okw.go_pk {x t : Nat} (hx : x ∈ s.pk) (hox : isOb s.l x) (hne : x ≠ p) (ht : t < nA s.l x) : (s.go p).l.getD (x + t) 0 = s.l.getD (x + t) 0 := by
  obtain ⟨h1, h2, h3⟩ := h.ink x hx
  have h3' : x + szA s.l x ≤ s.tk := by
    rcases h3 with h3 | ⟨n, _, h9⟩
    · exact h3.2
    · exact absurd hox (gone_fwd h9).2.2
  have h4 := hox.nA_le
  have h5 := h.go_place hp' ho
  have h6 := h.bases
  have h7 : x + t ≠ p := by
    rcases pairwise_get h.srk hx hp' with e | e | e
    · exact absurd e hne
    · have := e.2 hox; omega
    · omega
  rw [h.go_key hp' ho (by omega), if_neg h7, if_neg (by omega)]
theorem Okw.go_new {t : Nat} (ht : t < nA s.l p) : (s.go p).l.getD (s.tn + t) 0 = s.l.getD (p + t) 0 := by
  have h5 := h.go_place hp' ho
  have h6 := h.bases
  rw [h.go_key hp' ho (by omega), if_neg (by omega), if_pos (by omega), show s.tn + t - s.tn = t from by omega]
theorem Okw.go_new0 : (s.go p).l.getD s.tn 0 = s.l.getD p 0 := by
  have := ho.nA_le
  exact h.go_new hp' ho (t := 0) (by omega)
theorem Okw.go_p : (s.go p).l.getD p 0 = ((2 + s.tn * 4 : Nat) : Int) := by
  have h5 := h.go_place hp' ho
  rw [h.go_key hp' ho (by omega), if_pos rfl]
theorem Okw.go_newOb : isOb (s.go p).l s.tn := by
  have h5 := h.go_place hp' ho
  have o := ho.of
  refine ⟨_, _, _, _, _, o.right, o.ptrs, o.data, ?_, by rw [h.go_new0 hp' ho]; exact o.head⟩
  rw [h.go_len hp' ho]
  have : nA s.l p = 3 + hp (hdW s.l p) + hd (hdW s.l p) := rfl
  omega
/-- Who lives then. -/
theorem Okw.go_live {x : Nat} : Live (s.go p) x ↔ x = s.tn ∨ x ∈ s.pn ∨ (x ∈ s.pk ∧ x ≠ p ∧ isOb s.l x) := by
  have hpn : (s.go p).pn = s.pn ++ [s.tn] := rfl
  have hpk : (s.go p).pk = s.pk := rfl
  unfold Live
  rw [hpn, hpk, List.mem_append, List.mem_singleton]
  constructor
  · rintro ((h1 | h1) | ⟨h1, h2⟩)
    · exact .inr (.inl h1)
    · exact .inl h1
    · by_cases e : x = p
      · subst e
        exact absurd h2 (gone_fwd (h.go_p hp' ho)).2.2
      · exact .inr (.inr ⟨h1, e, (isOb_congr (h.go_len hp' ho) (h.go_pk0 hp' ho h1 e)).1 h2⟩)
  · rintro (h1 | h1 | ⟨h1, h2, h3⟩)
    · exact .inl (.inr h1)
    · exact .inl (.inl h1)
    · exact .inr ⟨h1, (isOb_congr (h.go_len hp' ho) (h.go_pk0 hp' ho h1 h2)).2 h3⟩
/-- Where things are then. -/
theorem Okw.go_fwd {x : Nat} (hx : x ∈ s.pn ∨ x ∈ s.pk) : fwd (s.go p).l x = if fwd s.l x = p then s.tn else fwd s.l x := by
  have h5 := h.go_place hp' ho
  have h6 := h.bases
  have hnp : ∀ y, y ∈ s.pn → y ≠ p := fun y hy => by
    obtain ⟨h1, h2, h3⟩ := h.inn y hy
    have := h2.nA_le
    omega
  rcases hx with hx | hx
  · rw [fwd_congr (h.go_pn0 hp' ho hx), ((h.inn x hx).2.1).fwd, if_neg (hnp x hx)]
  · by_cases e : x = p
    · subst e
      rw [ho.fwd, if_pos rfl, (gone_fwd (h.go_p hp' ho)).1]
    · rw [fwd_congr (h.go_pk0 hp' ho hx e)]
      rcases (h.ink x hx).2.2 with ⟨h1, _⟩ | ⟨n, hn, h1⟩
      · rw [h1.fwd, if_neg e]
      · rw [(gone_fwd h1).1, if_neg (hnp n hn)]
/-- What is live has the words that it had. -/
theorem Okw.go_word {x t : Nat} (hx : Live (s.go p) x) (ht : t < nA (s.go p).l x) : (s.go p).l.getD (x + t) 0 = s.l.getD ((if x = s.tn then p else x) + t) 0 := by
  have hnt : ∀ y, y ∈ s.pn → y ≠ s.tn := fun y hy => by have := (h.pn_lt hy).2.1; omega
  have h5 := h.go_place hp' ho
  have h6 := h.bases
  rcases (h.go_live hp' ho).1 hx with e | e | ⟨e1, e2, e3⟩
  · subst e
    rw [if_pos rfl]
    have e0 : nA (s.go p).l s.tn = nA s.l p := by unfold nA hdW; rw [h.go_new0 hp' ho]
    rw [e0] at ht
    exact h.go_new hp' ho ht
  · rw [if_neg (hnt x e)]
    rw [nA_congr (h.go_pn0 hp' ho e)] at ht
    exact h.go_pn hp' ho e ht
  · obtain ⟨h1, h2, _⟩ := h.ink x e1
    rw [if_neg (by omega)]
    rw [nA_congr (h.go_pk0 hp' ho e1 e2)] at ht
    exact h.go_pk hp' ho e1 e3 e2 ht
end

end Go.Proofs.YtbjmeibcphmgbaaGreat

namespace Go.Proofs.YtbjmeibcphmgbaaGreat
open Go.ChangeShapes Go.WideShapes Go.ChangeAt Go.RowKit

set_option linter.unusedSimpArgs false
set_option linter.unusedVariables false

section
variable {s : Hp} (h : Okw s) {p : Nat} (hp' : p ∈ s.pk) (ho : isOb s.l p)
include h hp' ho
/-- The object's other name: where it was. -/
theorem Okw.go_was {x : Nat} (hx : Live (s.go p) x) : Live s (if x = s.tn then p else x) ∧ hdW (s.go p).l x = hdW s.l (if x = s.tn then p else x) := by
  have hob : isOb (s.go p).l x := by
    rcases (h.go_live hp' ho).1 hx with e | e | ⟨e1, e2, e3⟩
    · subst e; exact h.go_newOb hp' ho
    · exact (isOb_congr (h.go_len hp' ho) (h.go_pn0 hp' ho e)).2 (h.inn x e).2.1
    · exact (isOb_congr (h.go_len hp' ho) (h.go_pk0 hp' ho e1 e2)).2 e3
  have h0 := h.go_word hp' ho hx (t := 0) (by have := hob.nA_le; omega)
  refine ⟨?_, by unfold hdW; rw [← Nat.add_zero x, h0]; simp⟩
  rcases (h.go_live hp' ho).1 hx with e | e | ⟨e1, e2, e3⟩
  · rw [if_pos e]; exact .inr ⟨hp', ho⟩
  · have := (h.pn_lt e).2.1
    rw [if_neg (by omega)]; exact .inl e
  · have h5 := h.go_place hp' ho
    have h6 := h.bases
    obtain ⟨h1, h2, _⟩ := h.ink x e1
    rw [if_neg (by omega)]
    exact .inr ⟨e1, e3⟩
theorem Okw.go_ob {x : Nat} (hx : Live (s.go p) x) : isOb (s.go p).l x := by
  rcases (h.go_live hp' ho).1 hx with e | e | ⟨e1, e2, e3⟩
  · subst e; exact h.go_newOb hp' ho
  · exact (isOb_congr (h.go_len hp' ho) (h.go_pn0 hp' ho e)).2 (h.inn x e).2.1
  · exact (isOb_congr (h.go_len hp' ho) (h.go_pk0 hp' ho e1 e2)).2 e3
theorem Okw.go_szA {x : Nat} (hx : x ∈ s.pn) : szA (s.go p).l x = szA s.l x := szA_congr (h.go_pn0 hp' ho hx)
theorem Okw.go_szT : szA (s.go p).l s.tn = szA s.l p := by unfold szA nA hdW; rw [h.go_new0 hp' ho]
end
section
variable {s : Hp} (h : Ok s) {p : Nat} (hp' : p ∈ s.pk) (ho : isOb s.l p)
include h hp' ho
theorem Ok.go (hm : s.mv = true) : Ok (s.go p) := by
  have h5 := h.go_place hp' ho
  have h6 := h.bases
  have hfit := h.fits hp' ho
  have hpn : (s.go p).pn = s.pn ++ [s.tn] := rfl
  have htn : (s.go p).tn = s.tn + szA s.l p := rfl
  have hlen := h.go_len hp' ho
  have hpk : (s.go p).pk = s.pk := rfl
  have hbn : (s.go p).bn = s.bn := rfl
  have hbk : (s.go p).bk = s.bk := rfl
  have hmem : ∀ x, x ∈ s.pn ++ [s.tn] ↔ x ∈ s.pn ∨ x = s.tn := fun x => by rw [List.mem_append, List.mem_singleton]
  have hsz := fun x (hx : x ∈ s.pn) => h.go_szA hp' ho hx
  have hszT := h.go_szT hp' ho
  have hptr : ∀ v, PtrOk s v → PtrOk (s.go p) v := fun v hv => hv.imp id fun ⟨y, e, hy⟩ => ⟨y, e, hy.imp (fun hy => by rw [hpn, hmem]; exact .inl hy) id⟩
  have hnA : ∀ x, Live (s.go p) x → nA (s.go p).l x = nA s.l (if x = s.tn then p else x) := fun x hx => by unfold nA; rw [(h.go_was hp' ho hx).2]
  have hwka : ∀ x, Live (s.go p) x → hw (hdW (s.go p).l x) = true → ∃ a ∈ (s.go p).wk, fwd (s.go p).l a = x := fun x hx hwk => by
    have hw := h.go_was hp' ho hx
    rw [hw.2] at hwk
    obtain ⟨a, ha, e⟩ := h.wkAll _ hw.1 hwk
    refine ⟨a, ha, ?_⟩
    rw [h.go_fwd hp' ho (h.wks a ha).1, e]
    rcases (h.go_live hp' ho).1 hx with e' | e' | ⟨e1, e2, e3⟩
    · have e4 : (if x = s.tn then p else x) = p := if_pos e'
      rw [e4, if_pos rfl, e']
    · have h1 := (h.pn_lt e').2.1
      have h2 : x ≠ s.tn := by omega
      have h3 : x ≠ p := fun e4 => by
        subst e4
        have := (h.inn x e').1
        have := (h.inn x e').2.1.nA_le
        have := (h.inn x e').2.2
        omega
      rw [if_neg h2, if_neg h3]
    · obtain ⟨h1, h2, _⟩ := h.ink x e1
      have h3 : x ≠ s.tn := by omega
      rw [if_neg h3, if_neg e2]
  refine ⟨⟨h.u01, h.z0, h.z1, by rw [hlen]; exact h.len, ?_, h.k0, h.k1, ?_, ?_, ?_, fun x hx => ?_, fun x hx => ?_, ?_, ?_, ?_, fun x hx => ?_, fun e => ?_, h.sel, fun x hx => ?_, fun x hx i hi => ?_, fun _ x hx hlt hwk i hi => ?_, fun e => ?_, fun a ha => ?_, fun x hx hwk => hwka x (.inl hx) hwk, fun a ha => ?_, h.wkl, h.fil⟩, fun x hx hob hwk => hwka x (.inr ⟨hx, hob⟩) hwk⟩
  · rw [h.go_key hp' ho (by omega), if_neg (by omega), if_neg (by omega)]; exact h.zero
  · show s.tn + szA s.l p + (s.ow - szA s.l p) ≤ s.bn + s.z
    have := h.room; omega
  · rw [htn, hpn, hbn, List.map_append, List.sum_append, sum_congr hsz, List.map_singleton, List.sum_singleton, hszT]
    have := h.sum; omega
  · show s.ow - szA s.l p = (s.pk.map (ows (s.go p).l)).sum
    have hn : s.pk.Nodup := h.rk.imp fun e => by omega
    have e1 := sum_one (f := ows (s.go p).l) (g := ows s.l) hn hp' (fun x hx hne => by unfold ows; rw [hdW_congr (h.go_pk0 hp' ho hx hne), szA_congr (h.go_pk0 hp' ho hx hne)]) (by
      unfold ows
      rw [if_neg]
      have := (gone_fwd (h.go_p hp' ho)).2.1
      omega)
    have e2 : ows s.l p = szA s.l p := if_pos ho.odd
    have := h.owe; omega
  · rw [hpn, hmem] at hx
    rw [hbn, htn]
    rcases hx with hx | rfl
    · obtain ⟨a1, a2, a3⟩ := h.inn x hx
      exact ⟨a1, (isOb_congr hlen (h.go_pn0 hp' ho hx)).2 a2, by rw [hsz x hx]; omega⟩
    · exact ⟨by omega, h.go_newOb hp' ho, by rw [hszT]; omega⟩
  · rw [hpk] at hx
    obtain ⟨a1, a2, a3⟩ := h.ink x hx
    refine ⟨a1, a2, ?_⟩
    by_cases e : x = p
    · subst e
      exact .inr ⟨s.tn, by rw [hpn, hmem]; exact .inr rfl, h.go_p hp' ho⟩
    · have e0 := h.go_pk0 hp' ho hx e
      refine a3.imp (fun ⟨b1, b2⟩ => ⟨(isOb_congr hlen e0).2 b1, by rw [szA_congr e0]; exact b2⟩) fun ⟨n, b1, b2⟩ => ⟨n, by rw [hpn, hmem]; exact .inl b1, e0.trans b2⟩
  · rw [hpn, List.pairwise_append]
    refine ⟨pairwise_congr h.srn fun x hx y hy e => by rw [hsz x hx]; exact e, List.pairwise_singleton _ _, fun x hx y hy => ?_⟩
    rw [List.mem_singleton] at hy
    subst hy
    rw [hsz x hx]
    exact (h.inn x hx).2.2
  · rw [hpk]
    refine pairwise_congr h.srk fun x hx y hy e => ⟨e.1, fun hob => ?_⟩
    by_cases ex : x = p
    · subst ex
      exact absurd hob (gone_fwd (h.go_p hp' ho)).2.2
    · have e0 := h.go_pk0 hp' ho hx ex
      rw [szA_congr e0]
      exact e.2 ((isOb_congr hlen e0).1 hob)
  · right
    rw [hbn, hpn, hmem]
    rcases h.fst with e | e
    · exact .inr e.symm
    · exact .inl e
  · rw [hpn, hmem] at hx
    rw [hpn, hmem, htn]
    rcases hx with hx | rfl
    · rw [hsz x hx]
      rcases h.nxt x hx with e | e
      · exact .inr (.inr e)
      · exact .inr (.inl e)
    · rw [hszT]; exact .inl rfl
  · exact absurd (hm.symm.trans e) (by decide)
  · have := (h.go_ob hp' ho hx).nA_le
    rw [h.go_word hp' ho hx (by omega)]
    exact h.ser _ (h.go_was hp' ho hx).1
  · have hob := h.go_ob hp' ho hx
    have := hob.nA_le
    have hw := (h.go_was hp' ho hx)
    rw [h.go_word hp' ho hx (by unfold nA; omega)]
    rw [hw.2] at hi
    exact hptr _ (h.ptr _ hw.1 i hi)
  · have hx' : Live (s.go p) x := .inl hx
    rw [hpn, hmem] at hx
    rcases hx with hx | rfl
    · have e0 := h.go_pn0 hp' ho hx
      rw [hdW_congr e0] at hwk hi
      rw [h.go_pn hp' ho hx (by unfold nA; omega)]
      exact (h.blk hm x hx hlt hwk i hi).imp id fun ⟨y, hy, e⟩ => ⟨y, by rw [hpn, hmem]; exact .inl hy, e⟩
    · exfalso
      have hlt : s.tn < s.sc := hlt
      rcases h.scn hm with e | e
      · omega
      · have := (h.pn_lt e).2.1; omega
  · show s.sc = s.tn + szA s.l p ∨ s.sc ∈ s.pn ++ [s.tn]
    rw [hmem]
    rcases h.scn hm with e | e
    · exact .inr (.inr e)
    · exact .inr (.inl e)
  · obtain ⟨a1, a2⟩ := h.wks a ha
    refine ⟨a1.imp (fun e => by rw [hpn, hmem]; exact .inl e) id, ?_⟩
    rw [h.go_fwd hp' ho a1]
    by_cases e : fwd s.l a = p
    · rw [if_pos e]
      have : hdW (s.go p).l s.tn = hdW s.l p := by unfold hdW; rw [h.go_new0 hp' ho]
      rw [this, ← e]; exact a2
    · rw [if_neg e]
      have e0 : (s.go p).l.getD (fwd s.l a) 0 = s.l.getD (fwd s.l a) 0 := by
        rcases a1 with e1 | e1
        · rw [((h.inn a e1).2.1).fwd] at e ⊢
          exact h.go_pn0 hp' ho e1
        · rcases (h.ink a e1).2.2 with ⟨b1, _⟩ | ⟨n, hn, b1⟩
          · rw [b1.fwd] at e ⊢
            exact h.go_pk0 hp' ho e1 e
          · rw [(gone_fwd b1).1]
            exact h.go_pn0 hp' ho hn
      rw [hdW_congr e0]; exact a2
  · exact (h.fin a ha).imp (fun e => by rw [hpn, hmem]; exact .inl e) id
end

end Go.Proofs.YtbjmeibcphmgbaaGreat
