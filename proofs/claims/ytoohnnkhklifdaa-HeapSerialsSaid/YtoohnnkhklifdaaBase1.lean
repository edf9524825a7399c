/- Put together: Memory, plainly: which blocks a step may turn ('Chg'), a block that is known whole, a row of words, lists that are laid over. No condition. Contracts of package arena: what each call tells, and what words there are behind it. Condition: the arena is one (ArenaAt), the numbers are int's. Package arena: a new one, under names. No condition. Plain facts on words of 64 bits as natural numbers: parts are got, set, packed and unpacked as bits are. No condition. Contracts of package word's Right, most, Mask, Get, Set at right parts. Condition: the parts are right. Package header: part, lay, read, flag, isCount, Right, Size, Head, Shape, Gone, Where, Free, Held, Owner are as the document says. Conditions: parts lie in a word, numbers fit. Package header: Free is as the document says. Condition: the number is a version. Contracts of package word's Zig and Zag. No condition. Package object: the closures that pick a word and those that make it another one; Shape, find, load and change at a place where there is an object. Condition: there is one (ObjIs). Package object: Serial, Second, Ptr, Num, SetPtr, SetNum, SetFreed, SetSecond at a place where there is an object, and Make, are as the document says. Condition: there is an object (ObjIs); of Make: its shape is right. Package header: Gone, Where, Free, Held, Owner are as the document says. Condition: numbers are not below 0; Owner is asked of a word that Held or Free made. The contract of package arena's Move: the words lie there as they lay ahead. Condition: the arena is one (ArenaAt), the numbers are int's. An iterator without an end of its own, and a loop over it that leaves off: the k-th round is told the k-th answer; that the loop leaves off is the caller's word (its rule holds for fewer than M rounds alone). Under wpIn_rangeFunc. The sizes of chapter class: 4 and 6 times the powers of two. Plain; no condition. A region within a round of a range over a function, at the wide fence: what is shown of it as of a region elsewhere ('wpAnyH': one condition S kept) holds there too, if none of its operations defers and the post lets nothing out. Package class: the endless iterator hands out the sizes one behind the other; least, Class and Round are the place and the size of the document. No condition. The laws' pick: which of n things a raw number speaks of. Condition: n is above 0. Package space at right spaces: Right, Make, Take, Used, Left, Has, Empty are as the document says. Condition: the space handed in is right. -/
import Derived.WalkKit
import Derived.ProofKit
import Derived.Below
import Derived.OneCell
import Derived.Laws.CopyRow
import Derived.Laws.CopyOwn
import Derived.Laws.AppendOwn
import Derived.Laws.MakeOwn
import Derived.Lib.Hide
import Derived.Deep.Draws
import Derived.Test.YtoohnnkhklifdaaRows
import Derived.Outline
import Derived.LoopTactic
import Derived.Deep.RegionHeld3
import Derived.Deep.RegionLaw
import Derived.Laws.BitsAllLaws
import Derived.IntWalk
import Derived.OpenShut
import Derived.Deep.QuietTactic
import Derived.BigQuiet
import Derived.WalkSmall
import Derived.RangeFuncNested
import Derived.RangeFuncBound
import Derived.RangeFuncCalls
import Derived.RangeFuncLeaves
import Derived.Deep.RegionHeld
import Derived.TacticsIn
import Derived.OrdersIn
import Derived.Shelf.Abstract
import Derived.Shelf.RegionOpen
import Derived.OwnWalkIn
import Derived.TacticsInMore
import Derived.LoopNIn
import Derived.LoopIn
namespace Go.Proofs.Ytoohnnkhklifdaa
open Go.RowKit

/-- From a to b only the blocks of S, and new ones, have turned. -/
structure Chg (S : Nat → Prop) (a b : World) : Prop where
  os : b.os = a.os
  tape : b.tape = a.tape
  output : b.output = a.output
  size : a.heap.size ≤ b.heap.size
  block : ∀ k, k < a.heap.size → ¬ S k → b.heap[k]? = a.heap[k]?

/-- Block b of w is just these cells, none of them frozen. -/
def BlkIs (w : World) (b : Nat) (cs : Array Value) (t : TypeId) : Prop := w.heap[b]? = some (.cells cs t (0, 0))

section
variable {S T : Nat → Prop} {a b c w : World} {k n : Nat} {cs : Array Value} {t : TypeId}

theorem Chg.refl (S : Nat → Prop) (w : World) : Chg S w w := ⟨rfl, rfl, rfl, Nat.le_refl _, fun _ _ _ => rfl⟩
theorem Chg.trans (h : Chg S a b) (g : Chg S b c) : Chg S a c :=
  ⟨g.os.trans h.os, g.tape.trans h.tape, g.output.trans h.output, Nat.le_trans h.size g.size, fun k hk hs => (g.block k (Nat.lt_of_lt_of_le hk h.size) hs).trans (h.block k hk hs)⟩
theorem Chg.mono (h : Chg S a b) (hs : ∀ k, S k → T k) : Chg T a b := ⟨h.os, h.tape, h.output, h.size, fun k hk ht => h.block k hk fun e => ht (hs k e)⟩
/-- One step that may turn a block that is new since w. -/
theorem Chg.step (h : Chg S w a) (g : Chg T a b) (hs : ∀ k, T k → S k ∨ w.heap.size ≤ k) : Chg S w b :=
  ⟨g.os.trans h.os, g.tape.trans h.tape, g.output.trans h.output, Nat.le_trans h.size g.size, fun k hk ht =>
    (g.block k (Nat.lt_of_lt_of_le hk h.size) fun e => (hs k e).elim ht fun e' => absurd e' (by omega)).trans (h.block k hk ht)⟩
theorem Chg.alloc (h : Chg S w a) (o : Obj) : Chg S w (a.alloc o) :=
  h.trans ⟨rfl, rfl, rfl, by simp, fun k hk _ => Below.heap_alloc _ _ _ hk⟩
theorem Chg.drew (h : Chg S w a) : Chg S w a.drew := ⟨h.os, h.tape, h.output, h.size, h.block⟩
theorem Chg.drewN (h : Chg S w a) (n : Nat) : Chg S w (a.drewN n) := ⟨h.os, h.tape, h.output, h.size, h.block⟩
theorem Chg.setCell (h : Chg S w a) {p : Addr} (hp : S p.block ∨ w.heap.size ≤ p.block) (u : Value) : Chg S w (a.setCell p u) :=
  h.step (T := fun k => k = p.block) ⟨rfl, rfl, rfl, by simp [World.setCell], fun k _ hk => Below.heap_setCell _ _ _ _ hk⟩ fun k e => by subst e; exact hp
theorem Chg.setRow (h : Chg S w a) {g : Nat} (hp : S g ∨ w.heap.size ≤ g) (cs : Array Value) : Chg S w (a.setRow g cs) :=
  h.step (T := fun k => k = g) ⟨rfl, rfl, rfl, by simp, fun k _ hk => setRow_other _ _ _ _ hk⟩ fun k e => by subst e; exact hp
theorem Chg.of_below (h : Below n a b) (hn : a.heap.size ≤ n) : Chg S a b := ⟨h.os, h.tape, h.output, h.size, fun k hk _ => h.block k (by omega)⟩
theorem Chg.of_grown {row : Option Nat} (h : a.grownBy b row) (hs : ∀ k, some k = row → S k) : Chg S a b := ⟨h.os, h.tape, h.output, h.size, fun k hk ht => h.block k hk fun e => ht (hs k e)⟩
theorem Chg.below (h : Chg S a b) (hs : ∀ k, S k → n ≤ k) (hn : n ≤ a.heap.size) : Below n a b :=
  ⟨h.os, h.tape, h.output, h.size, fun k hk => h.block k (by omega) fun e => by have := hs k e; omega⟩
theorem Chg.cell (h : Chg S a b) {p : Addr} (hp : p.block < a.heap.size) (hs : ¬ S p.block) : b.cell? p = a.cell? p := World.cell?_of_block (h.block p.block hp hs)

theorem BlkIs.lt (h : BlkIs w k cs t) : k < w.heap.size := lt_of_block h
theorem BlkIs.cell (h : BlkIs w k cs t) (i : Nat) : w.cell? ⟨k, i, none⟩ = cs[i]? := by unfold BlkIs at h; simp [World.cell?, h]
theorem BlkIs.free (h : BlkIs w k cs t) (i : Nat) : w.frozen? ⟨k, i, none⟩ = false := by unfold BlkIs at h; simp [World.frozen?, h]
theorem BlkIs.new (w : World) (cs : Array Value) (t : TypeId) : BlkIs (w.alloc (.cells cs t)) w.heap.size cs t := by
  show (w.heap.push _)[w.heap.size]? = _
  simp
theorem BlkIs.chg (h : BlkIs a k cs t) (g : Chg S a b) (hs : ¬ S k) : BlkIs b k cs t := (g.block k h.lt hs).trans h
theorem BlkIs.below (h : BlkIs a k cs t) (g : Below n a b) (hs : k < n) : BlkIs b k cs t := (g.block k hs).trans h
theorem BlkIs.alloc (h : BlkIs a k cs t) (o : Obj) : BlkIs (a.alloc o) k cs t := (Below.heap_alloc a o k h.lt).trans h
theorem BlkIs.set (h : BlkIs w k cs t) (i : Nat) (u : Value) : BlkIs (w.setCell ⟨k, i, none⟩ u) k (cs.setIfInBounds i u) t := by
  unfold BlkIs at *
  rw [setCell_eq_setRow w k i cs t (0, 0) u h]
  exact setRow_heap w k _ _ t _ h
theorem BlkIs.far (h : BlkIs w k cs t) {p : Addr} (hp : k ≠ p.block) (u : Value) : BlkIs (w.setCell p u) k cs t := (Below.heap_setCell w p u k hp).trans h
theorem BlkIs.row (h : BlkIs w k cs t) (ds : Array Value) : BlkIs (w.setRow k ds) k ds t := setRow_heap w k _ _ t _ h
theorem BlkIs.rowFar (h : BlkIs w k cs t) {g : Nat} (hp : k ≠ g) (ds : Array Value) : BlkIs (w.setRow g ds) k cs t := (setRow_other w g k ds hp).trans h
end

/-- k numbers are laid over l, from place a on. -/
def layL (l : List Int) (a : Nat) (f : Nat → Int) : Nat → List Int
  | 0 => l
  | k + 1 => (layL l a f k).set (a + k) (f k)
@[simp] theorem layL_length (l : List Int) (a : Nat) (f : Nat → Int) (k : Nat) : (layL l a f k).length = l.length := by
  induction k with
  | zero => rfl
  | succ k ih => simp [layL, ih]
theorem layL_at (l : List Int) (a : Nat) (f : Nat → Int) (k j : Nat) (h : j < l.length) : (layL l a f k).getD j 0 = if a ≤ j ∧ j < a + k then f (j - a) else l.getD j 0 := by
  induction k with
  | zero => rw [if_neg (by omega)]; rfl
  | succ k ih =>
    unfold layL
    rw [List.getD_eq_getElem?_getD, List.getElem?_set]
    by_cases e : a + k = j
    · subst e
      rw [if_pos rfl, if_pos (by rw [layL_length]; exact h), if_pos (by omega), show a + k - a = k from by omega]
      rfl
    · rw [if_neg e, ← List.getD_eq_getElem?_getD, ih]
      by_cases e2 : a ≤ j ∧ j < a + k
      · rw [if_pos e2, if_pos (by omega)]
      · rw [if_neg e2, if_neg (by omega)]
theorem layL_mem {l : List Int} {a : Nat} {f : Nat → Int} {P : Int → Prop} (hl : ∀ z ∈ l, P z) (k : Nat) (hf : ∀ j, j < k → P (f j)) : ∀ z ∈ layL l a f k, P z := by
  induction k with
  | zero => exact hl
  | succ k ih =>
    intro z hz
    rcases List.mem_or_eq_of_mem_set hz with h | rfl
    · exact ih (fun j hj => hf j (by omega)) z h
    · exact hf k (by omega)
theorem ext_getD {l m : List Int} (hl : l.length = m.length) (h : ∀ j, j < l.length → l.getD j 0 = m.getD j 0) : l = m := by
  refine List.ext_getElem hl fun i h1 h2 => ?_
  have := h i h1
  simpa [List.getD, h1, h2] using this
theorem layL_splice (l : List Int) (a : Nat) (f : Nat → Int) (k : Nat) (h : a + k ≤ l.length) : layL l a f k = splice l a ((List.range k).map f) := by
  have hs := length_splice l a ((List.range k).map f) (by simpa using h)
  refine ext_getD (by rw [layL_length, hs]) fun j hj => ?_
  rw [layL_length] at hj
  rw [layL_at _ _ _ _ _ hj]
  unfold splice
  by_cases h1 : j < a
  · rw [if_neg (by omega), List.getD_eq_getElem?_getD, List.getD_eq_getElem?_getD, List.getElem?_append_left (by simp; omega), List.getElem?_take_of_lt h1]
  · by_cases h2 : j < a + k
    · rw [if_pos (by omega), List.getD_eq_getElem?_getD, List.getElem?_append_right (by simp; omega), List.length_take, Nat.min_eq_left (by omega), List.getElem?_append_left (by simp; omega), List.getElem?_map, List.getElem?_range (by omega)]
      rfl
    · rw [if_neg (by omega), List.getD_eq_getElem?_getD, List.getD_eq_getElem?_getD, List.getElem?_append_right (by simp; omega), List.length_take, Nat.min_eq_left (by omega), List.getElem?_append_right (by simp; omega), List.getElem?_drop, List.length_map, List.length_range]
      congr 2
      omega

/-- A place of a list of numbers, as a value. -/
theorem map_set {α β : Type} (f : α → β) (l : List α) (i : Nat) (x : α) : (l.map f).set i (f x) = (l.set i x).map f := by
  rw [List.map_set]
theorem splice_map {α β : Type} (f : α → β) (l : List α) (a : Nat) (cs : List α) : splice (l.map f) a (cs.map f) = (splice l a cs).map f := by
  unfold splice; simp

/-- 'copy' at a step of a region that draws its order: the world behind it written out. -/
theorem step_copy_at {P : Program} {ops : Array Oper} {o : Oper} {a : Act} {w : World} {K : Act → World → Prop} {Q : Exit → Act → World → Prop} {E : Prop} (hgd : o.guard = none) (d s : Operand) (dT sT : TypeId)
    (ho : o.op = .call { callee := .builtin .copy, args := #[d, s], argTypes := #[dT, sT] }) (elem : TypeId) (hu : P.underlying dT = some (.slice elem)) (hsz : (P.info? elem).map (·.size) = some 1)
    (dp sp : Option Addr) (dLen dCap sLen sCap : Nat) (hd : a.eval d = .slice dp dLen dCap) (hs : a.eval s = .slice sp sLen sCap)
    (g off : Nat) (cur : List Value) (t : TypeId) (hg : w.heap[g]? = some (.cells cur.toArray t (0, 0))) (cs : List Value) (hn : cs.length = Nat.min sLen dLen)
    (hpos : 0 < cs.length → dp = some ⟨g, off, none⟩ ∧ ∃ ad, sp = some ad ∧ ∀ j v, cs[j]? = some v → w.cell? (ad.add j) = some v)
    (hfit : off + cs.length ≤ cur.length) (h1 : ∀ v ∈ cs, v.oneCell' = true)
    (h : K (a.put o.dst (goInt cs.length)) (w.setRow g (splice cur off cs).toArray)) :
    if Region.wanted o (yielded ops a.tmps) = true then Oper.wp P o a w K Q else E := by
  rw [if_pos (by simp [Region.wanted, hgd])]
  by_cases h0 : cs.length = 0
  · obtain rfl : cs = [] := List.eq_nil_of_length_eq_zero h0
    have hrun := run_copy_none (P := P) w dT sT o.type elem dp sp dLen dCap sLen sCap hu hsz (by simpa using hn.symm)
    have he : splice cur off ([] : List Value) = cur := by simp [splice]
    rw [he, setRow_self w g _ t (0, 0) hg] at h
    unfold Oper.wp
    simp [execOp, ho, resolve, invoke, builtin, hd, hs, hrun, Result.andThen]
    exact h
  · obtain ⟨rfl, ad, rfl, hsrc⟩ := hpos (by omega)
    have hrun := run_copy_row (P := P) w dT sT o.type elem g off dLen dCap ad sLen sCap cur.toArray t cs hu hsz hg hn hsrc (by simpa using hfit) h1
    unfold Oper.wp
    simp [execOp, ho, resolve, invoke, builtin, hd, hs, hrun, Result.andThen]
    exact h

/-- 'make' of a row of one-cell elements. -/
theorem make_row {P : Program} (t e : TypeId) (i : TypeInfo) (z : Value) (ht : P.underlying t = some (.slice e)) (hi : P.info? e = some i) (hz : i.zero = some z)
    (kl kc : IntKind) (n c : Nat) (hnc : n ≤ c) (hbytes : i.bytes * c ≤ 281474976710656) (h63 : c ≤ 9223372036854775807) (w : World) :
    (Instr.makeSlice t (.int kl (n : Int)) (.int kc (c : Int))).run P w = .ok (.slice (some ⟨w.heap.size, 0, none⟩) n c) (w.alloc (.cells (madeCells z.cells (c * i.size)) e)) := by
  have hb : (i.bytes : Int) * (c : Int) ≤ 281474976710656 := by
    have h : ((i.bytes * c : Nat) : Int) ≤ 281474976710656 := by omega
    rwa [Int.natCast_mul] at h
  have hr := run_make (P := P) w t e i z ht hi hz kl kc n c (by omega) (by omega) hb (by omega)
  simp only [Int.toNat_natCast] at hr
  exact hr
theorem made_ints (k : IntKind) (n : Nat) : madeCells #[Value.int k 0] n = ((List.replicate n (0 : Int)).map (Value.int k)).toArray := by
  refine Array.ext_getElem? fun i => ?_
  simp only [madeCells, List.size_toArray, List.length_cons, List.length_nil, Nat.zero_add, Nat.mod_one, Array.getElem?_map, List.getElem?_toArray, List.getElem?_map]
  by_cases h : i < n
  · simp [h]
  · simp [h]

end Go.Proofs.Ytoohnnkhklifdaa

namespace Go.Proofs.Ytoohnnkhklifdaa
open Go.ChangeShapes Go.WideShapes Go.ChangeAt Go.RowKit

set_option linter.unusedSimpArgs false
set_option linter.unusedVariables false

/-- Words l lie in block b; block p is the arena (its struct's type is t) that has them. -/
structure ArenaAt (t : TypeId) (w : World) (p b : Nat) (l : List Int) : Prop where
  head : BlkIs w p #[.slice (some ⟨b, 0, none⟩) l.length l.length] t
  row : BlkIs w b (l.map (Value.int .u64)).toArray 79
  len : l.length ≤ 65536
  fits : ∀ z ∈ l, 0 ≤ z ∧ z ≤ 18446744073709551615

section
variable {t : TypeId} {w w' : World} {p b : Nat} {l : List Int} {S : Nat → Prop}
theorem ArenaAt.chg (h : ArenaAt t w p b l) (g : Chg S w w') (hp : ¬ S p) (hb : ¬ S b) : ArenaAt t w' p b l := ⟨h.head.chg g hp, h.row.chg g hb, h.len, h.fits⟩
theorem ArenaAt.below {n : Nat} (h : ArenaAt t w p b l) (g : Below n w w') (hp : p < n) (hb : b < n) : ArenaAt t w' p b l := ⟨h.head.below g hp, h.row.below g hb, h.len, h.fits⟩
theorem ArenaAt.cell {i : Nat} (h : ArenaAt t w p b l) (hi : i < l.length) : w.cell? ⟨b, i, none⟩ = some (.int .u64 (l.getD i 0)) := by
  rw [h.row.cell]
  simp [List.getD, hi]
theorem ArenaAt.slot (h : ArenaAt t w p b l) : w.cell? ⟨p, 0, none⟩ = some (.slice (some ⟨b, 0, none⟩) l.length l.length) := by
  rw [h.head.cell]; rfl
theorem ArenaAt.ne (h : ArenaAt t w p b l) (ht : t ≠ 79) : p ≠ b := by
  rintro rfl
  have h1 := h.head
  have h2 := h.row
  unfold BlkIs at h1 h2
  rw [h1] at h2
  injection h2 with h2
  injection h2 with _ h2
  exact ht h2
theorem ArenaAt.set (h : ArenaAt t w p b l) (ht : t ≠ 79) {i : Nat} {x : Int} (hx : 0 ≤ x ∧ x ≤ 18446744073709551615) : ArenaAt t (w.setCell ⟨b, i, none⟩ (.int .u64 x)) p b (l.set i x) := by
  refine ⟨?_, ?_, by rw [List.length_set]; exact h.len, fun z hz => ?_⟩
  · rw [List.length_set]; exact h.head.far (h.ne ht) _
  · have := h.row.set i (.int .u64 x)
    simpa [List.map_set] using this
  · rcases List.mem_or_eq_of_mem_set hz with h1 | rfl
    · exact h.fits z h1
    · exact hx
theorem ArenaAt.put (h : ArenaAt t w p b l) (ht : t ≠ 79) {a k : Nat} {f : Nat → Int} (ha : a + k ≤ l.length) (hf : ∀ j, j < k → 0 ≤ f j ∧ f j ≤ 18446744073709551615) :
    ArenaAt t (w.setRow b (splice (l.map (Value.int .u64)) a ((List.range k).map fun j => Value.int .u64 (f j))).toArray) p b (layL l a f k) := by
  refine ⟨?_, ?_, by rw [layL_length]; exact h.len, layL_mem h.fits k hf⟩
  · rw [layL_length]; exact h.head.rowFar (h.ne ht) _
  · rw [layL_splice l a f k ha, ← splice_map, List.map_map]; exact h.row.row _
end

/-- Whether n places from at on are there. -/
def fitsB (len : Nat) (at' n : Int) : Bool := decide (0 ≤ at') && decide (0 ≤ n) && decide (at' + n ≤ (len : Int))
theorem fitsB_yes {len : Nat} {a n : Int} (h : fitsB len a n = true) : 0 ≤ a ∧ 0 ≤ n ∧ a + n ≤ (len : Int) := by
  unfold fitsB at h; simpa [and_assoc] using h
theorem fitsB_of {len : Nat} {a n : Int} (h1 : 0 ≤ a) (h2 : 0 ≤ n) (h3 : a + n ≤ (len : Int)) : fitsB len a n = true := by
  unfold fitsB; simp [h1, h2, h3]
theorem fitsB_not {len : Nat} {a n : Int} (h : ¬ (0 ≤ a ∧ 0 ≤ n ∧ a + n ≤ (len : Int))) : fitsB len a n = false := by
  cases e : fitsB len a n
  · rfl
  · exact absurd (fitsB_yes e) h

def loadV (l : List Int) (a : Int) : Int := if fitsB l.length a 1 then l.getD a.toNat 0 else 0
def errV (len : Nat) (a n : Int) : Int := if fitsB len a n then 0 else 20
def fillV (l : List Int) (a n x : Int) : List Int := if fitsB l.length a n then layL l a.toNat (fun _ => x) n.toNat else l
def moveV (l : List Int) (a c n : Int) : List Int := if fitsB l.length a n && fitsB l.length c n then layL l c.toNat (fun j => l.getD (a.toNat + j) 0) n.toNat else l
def err2V (len : Nat) (a c n : Int) : Int := if fitsB len a n && fitsB len c n then 0 else 20

theorem getD_fits {l : List Int} (h : ∀ z ∈ l, 0 ≤ z ∧ z ≤ 18446744073709551615) (i : Nat) : 0 ≤ l.getD i 0 ∧ l.getD i 0 ≤ 18446744073709551615 := by
  by_cases hi : i < l.length
  · have := h (l.getD i 0) (by simp [List.getD, hi])
    exact this
  · simp [List.getD, hi]

/-! New -/
theorem infoW : (Try.prog.info? 79).map (fun i => (i.zero, i.size, i.bytes)) = some (some (.int .u64 0), 1, 8) := by kernel_rfl

set_option maxRecDepth 100000 in
theorem new_yes (n : Int) (w : World) (h0 : 1 ≤ n) (h1 : n ≤ 65536) :
    Calls Try.prog 16 #[.int .i64 n] w fun e w' => e = .returned (.tuple #[.pointer (some ⟨w.heap.size + 1, 0, none⟩), .int .i64 0]) ∧ ArenaAt 76 w' (w.heap.size + 1) w.heap.size (List.replicate n.toNat 0) ∧ w'.heap.size = w.heap.size + 2 ∧ Below w.heap.size w w' := by
  obtain ⟨i0, hi, hz0, hz1, hz2⟩ := info_parts infoW
  obtain ⟨n, rfl⟩ : ∃ k : Nat, n = k := ⟨n.toNat, by omega⟩
  have hmk := fun W => make_row (P := Try.prog) 74 79 i0 (.int .u64 0) Try.underlying74 hi hz0 .i64 .i64 n n (Nat.le_refl _) (by rw [hz2]; omega) (by omega) W
  simp only [hz1, Nat.mul_one] at hmk
  go_enter Try.func16, Try.ntmps16
  go_wp2
  go_ret2
  refine ⟨rfl, ⟨?_, ?_, by simp; omega, fun z hz => ?_⟩, by simp, ((Below.refl _ _).alloc (Nat.le_refl _) _).alloc (by simp) _⟩
  · have := BlkIs.new (w.alloc (.cells (madeCells #[Value.int .u64 0] n) 79)) #[.slice (some ⟨w.heap.size, 0, none⟩) n n] 76
    simpa using this
  · have h := BlkIs.new w (madeCells #[Value.int .u64 0] n) 79
    rw [Int.toNat_natCast, ← made_ints]
    exact h.alloc _
  · have := List.eq_of_mem_replicate hz
    omega

theorem new_no (n : Int) (w : World) (h : n < 1 ∨ 65536 < n) :
    Calls Try.prog 16 #[.int .i64 n] w fun e w' => e = .returned (.tuple #[.pointer none, .int .i64 1]) ∧ w = w' := by
  rcases h with h | h
  · go_enter Try.func16, Try.ntmps16
    go_wp2
    go_ret2
    exact ⟨rfl, rfl⟩
  · have h' : ¬ n < 1 := by omega
    go_enter Try.func16, Try.ntmps16
    go_wp2
    go_ret2
    exact ⟨rfl, rfl⟩

/-! Len, has, Load -/
theorem len_any {p b : Nat} {l : List Int} (w : World) (h : ArenaAt 76 w p b l) :
    Calls Try.prog 56 #[.pointer (some ⟨p, 0, none⟩)] w fun e w' => e = .returned (.int .i64 (l.length : Nat)) ∧ w = w' := by
  have hc := h.slot
  have hl := h.len
  clear h
  go_enter Try.func56, Try.ntmps56
  go_wp2
  go_ret
  exact ⟨rfl, rfl⟩

theorem has_any {p b : Nat} {l : List Int} (a n : Int) (w : World) (h : ArenaAt 76 w p b l) (a0 : -9223372036854775808 ≤ a) (a1 : a ≤ 9223372036854775807) (n0 : -9223372036854775808 ≤ n) (n1 : n ≤ 9223372036854775807) :
    Calls Try.prog 64 #[.pointer (some ⟨p, 0, none⟩), .int .i64 a, .int .i64 n] w fun e w' => e = .returned (.bool (fitsB l.length a n)) ∧ w = w' := by
  have hl := h.len
  by_cases h1 : 0 ≤ a
  · by_cases h2 : 0 ≤ n
    · by_cases h3 : a + n ≤ (l.length : Int)
      · have hd : decide (a ≤ (l.length : Int) - n) = true := by simp; omega
        rw [fitsB_of h1 h2 h3]
        go_enter Try.func64, Try.ntmps64
        go_wp2_with ((with_reducible refine (len_any _ h).mono ?_); rintro e w' ⟨rfl, rfl⟩)
        go_ret
        exact ⟨rfl, rfl⟩
      · have hd : decide (a ≤ (l.length : Int) - n) = false := by simp; omega
        rw [fitsB_not (by omega)]
        go_enter Try.func64, Try.ntmps64
        go_wp2_with ((with_reducible refine (len_any _ h).mono ?_); rintro e w' ⟨rfl, rfl⟩)
        go_ret
        exact ⟨rfl, rfl⟩
    · have hd : decide (0 ≤ n) = false := by simp; omega
      rw [fitsB_not (by omega)]
      go_enter Try.func64, Try.ntmps64
      go_wp2
      go_ret
      exact ⟨rfl, rfl⟩
  · have hd : decide (0 ≤ a) = false := by simp; omega
    rw [fitsB_not (by omega)]
    go_enter Try.func64, Try.ntmps64
    go_wp2
    go_ret
    exact ⟨rfl, rfl⟩

theorem load_any {p b : Nat} {l : List Int} (a : Int) (w : World) (h : ArenaAt 76 w p b l) (a0 : -9223372036854775808 ≤ a) (a1 : a ≤ 9223372036854775807) :
    Calls Try.prog 54 #[.pointer (some ⟨p, 0, none⟩), .int .i64 a] w fun e w' => e = .returned (.tuple #[.int .u64 (loadV l a), .int .i64 (errV l.length a 1)]) ∧ w = w' := by
  have hc := h.slot
  have hl := h.len
  by_cases hf : fitsB l.length a 1 = true
  · obtain ⟨h1, _, h3⟩ := fitsB_yes hf
    have hv : loadV l a = l.getD a.toNat 0 := by unfold loadV; rw [if_pos hf]
    have he : errV l.length a 1 = 0 := by unfold errV; rw [if_pos hf]
    rw [hv, he]
    obtain ⟨k, rfl⟩ : ∃ k : Nat, a = k := ⟨a.toNat, by omega⟩
    rw [Int.toNat_natCast]
    have hx := h.cell (i := k) (by omega)
    clear hv he
    go_enter Try.func54, Try.ntmps54
    go_wp2_with ((with_reducible refine (has_any _ _ _ h a0 a1 (by decide) (by decide)).mono ?_); rintro e w' ⟨rfl, rfl⟩)
    go_ret2
    exact ⟨rfl, rfl⟩
  · have hf : fitsB l.length a 1 = false := by simpa using hf
    have hv : loadV l a = 0 := by unfold loadV; rw [hf]; rfl
    have he : errV l.length a 1 = 20 := by unfold errV; rw [hf]; rfl
    rw [hv, he]
    clear hv he
    go_enter Try.func54, Try.ntmps54
    go_wp2_with ((with_reducible refine (has_any _ _ _ h a0 a1 (by decide) (by decide)).mono ?_); rintro e w' ⟨rfl, rfl⟩)
    go_ret2
    exact ⟨rfl, rfl⟩

/-! Fill, Store -/
theorem fill_any {p b : Nat} {l : List Int} (a n x : Int) (w : World) (h : ArenaAt 76 w p b l) (a0 : -9223372036854775808 ≤ a) (a1 : a ≤ 9223372036854775807) (n0 : -9223372036854775808 ≤ n) (n1 : n ≤ 9223372036854775807) (hx : 0 ≤ x ∧ x ≤ 18446744073709551615) :
    Calls Try.prog 40 #[.pointer (some ⟨p, 0, none⟩), .int .i64 a, .int .i64 n, .int .u64 x] w fun e w' => e = .returned (.int .i64 (errV l.length a n)) ∧ ArenaAt 76 w' p b (fillV l a n x) ∧ Chg (· = b) w w' := by
  have hl := h.len
  by_cases hf : fitsB l.length a n = true
  · obtain ⟨h1, h2, h3⟩ := fitsB_yes hf
    have hv : fillV l a n x = layL l a.toNat (fun _ => x) n.toNat := by unfold fillV; rw [if_pos hf]
    have he : errV l.length a n = 0 := by unfold errV; rw [if_pos hf]
    rw [hv, he]
    obtain ⟨a, rfl⟩ : ∃ k : Nat, a = k := ⟨a.toNat, by omega⟩
    obtain ⟨n, rfl⟩ : ∃ k : Nat, n = k := ⟨n.toNat, by omega⟩
    rw [Int.toNat_natCast, Int.toNat_natCast]
    clear hv he
    go_enter Try.func40, Try.ntmps40
    go_wp2_with ((with_reducible refine (has_any _ _ _ h a0 a1 n0 n1).mono ?_); rintro e w' ⟨rfl, rfl⟩)
    go_loopw [16] (fun i wr => ∃ k : Nat, k ≤ n ∧ i = .int .i64 k ∧ ArenaAt 76 wr p b (layL l a (fun _ => x) k) ∧ Chg (· = b) w wr) (fun i _ => n - (intOf i).toNat)
    case atStart => exact ⟨0, Nat.zero_le _, rfl, h, Chg.refl _ _⟩
    case round =>
      obtain ⟨k, hk, rfl, ha, hch⟩ := hrel
      have hs := ha.slot
      have hfr := ha.row.free (a + k)
      rw [layL_length] at hs
      by_cases hlt : k < n
      · have hx' := ha.cell (i := a + k) (by rw [layL_length]; omega)
        have hset := ha.set (by decide) (i := a + k) hx
        have hch' := hch.setCell (p := ⟨b, a + k, none⟩) (.inl rfl) (.int .u64 x)
        clear ha
        go_wp2
        go_roundw
        case rel => exact ⟨k + 1, by omega, by go_num, hset, hch'⟩
        case measure => simp [intOf]; omega
      · obtain rfl : k = n := by omega
        go_wp2
        go_ret
        exact ⟨rfl, ha, hch⟩
  · have hf : fitsB l.length a n = false := by simpa using hf
    have hv : fillV l a n x = l := by unfold fillV; rw [hf]; rfl
    have he : errV l.length a n = 20 := by unfold errV; rw [hf]; rfl
    rw [hv, he]
    clear hv he
    go_enter Try.func40, Try.ntmps40
    go_wp2_with ((with_reducible refine (has_any _ _ _ h a0 a1 n0 n1).mono ?_); rintro e w' ⟨rfl, rfl⟩)
    go_ret
    exact ⟨rfl, h, Chg.refl _ _⟩

theorem store_any {p b : Nat} {l : List Int} (a x : Int) (w : World) (h : ArenaAt 76 w p b l) (a0 : -9223372036854775808 ≤ a) (a1 : a ≤ 9223372036854775807) (hx : 0 ≤ x ∧ x ≤ 18446744073709551615) :
    Calls Try.prog 42 #[.pointer (some ⟨p, 0, none⟩), .int .i64 a, .int .u64 x] w fun e w' => e = .returned (.int .i64 (errV l.length a 1)) ∧ ArenaAt 76 w' p b (fillV l a 1 x) ∧ Chg (· = b) w w' := by
  go_enter Try.func42, Try.ntmps42
  go_wp2_with ((with_reducible refine (fill_any _ _ _ _ h a0 a1 (by decide) (by decide) hx).mono ?_); rintro e w' ⟨rfl, ha, hch⟩)
  go_ret
  exact ⟨rfl, ha, hch⟩

end Go.Proofs.Ytoohnnkhklifdaa

namespace Go.Proofs.Ytoohnnkhklifdaa
open Go.RowKit

set_option linter.unusedSimpArgs false
set_option linter.unusedVariables false

theorem new_any (n : Nat) (w : World) (h0 : 1 ≤ n) (h1 : n ≤ 65536) :
    Calls Try.prog 16 #[.int .i64 n] w fun e w' => ∃ p b, e = .returned (.tuple #[.pointer (some ⟨p, 0, none⟩), .int .i64 0]) ∧ ArenaAt 76 w' p b (List.replicate n 0) ∧ w.heap.size ≤ p ∧ w.heap.size ≤ b ∧ Below w.heap.size w w' := by
  refine (new_yes n w (by omega) (by omega)).mono ?_
  rintro e w' ⟨rfl, ha, hs, hb⟩
  exact ⟨_, _, rfl, by simpa using ha, by omega, by omega, hb⟩

theorem ArenaAt.drew {t : TypeId} {w : World} {p b : Nat} {l : List Int} (h : ArenaAt t w p b l) : ArenaAt t w.drew p b l := ⟨h.head, h.row, h.len, h.fits⟩
theorem ArenaAt.lt {t : TypeId} {w : World} {p b : Nat} {l : List Int} (h : ArenaAt t w p b l) : p < w.heap.size ∧ b < w.heap.size := ⟨h.head.lt, h.row.lt⟩

end Go.Proofs.Ytoohnnkhklifdaa

namespace Go.Proofs.Ytoohnnkhklifdaa.Wd

/-- The greatest number that a part of d bits holds. -/
def most (d : Nat) : Nat := 2 ^ d - 1
def mask (s d : Nat) : Nat := most d <<< s
def get (w s d : Nat) : Nat := (w >>> s) &&& most d
def set (w s d v : Nat) : Nat := (w &&& (18446744073709551615 - mask s d)) ||| (v <<< s)

theorem testBit_most (d i : Nat) : (most d).testBit i = decide (i < d) := by
  unfold most; exact Nat.testBit_two_pow_sub_one d i
theorem testBit_mask (s d i : Nat) : (mask s d).testBit i = decide (s ≤ i ∧ i < s + d) := by
  unfold mask
  rw [Nat.testBit_shiftLeft, testBit_most]
  by_cases h : s ≤ i
  · simp [h]; omega
  · simp [h]
theorem testBit_get (w s d i : Nat) : (get w s d).testBit i = (w.testBit (s + i) && decide (i < d)) := by
  unfold get
  rw [Nat.testBit_and, Nat.testBit_shiftRight, testBit_most]
theorem most_lt (d : Nat) : most d < 2 ^ d := by
  unfold most; have := Nat.two_pow_pos d; omega
theorem pow_le64 {d : Nat} (h : d ≤ 64) : 2 ^ d ≤ 18446744073709551616 := by
  have := Nat.pow_le_pow_right (n := 2) (by omega) h
  simpa using this
theorem mask_lt {s d : Nat} (h : s + d ≤ 64) : mask s d < 18446744073709551616 := by
  unfold mask
  rw [Nat.shiftLeft_eq]
  have h1 : most d * 2 ^ s < 2 ^ d * 2 ^ s := Nat.mul_lt_mul_of_pos_right (most_lt d) (Nat.two_pow_pos s)
  rw [← Nat.pow_add] at h1
  have := pow_le64 (d := d + s) (by omega)
  omega
theorem testBit_out {w i : Nat} (hw : w < 18446744073709551616) (hi : 64 ≤ i) : w.testBit i = false :=
  Nat.testBit_lt_two_pow (Nat.lt_of_lt_of_le hw (by have := Nat.pow_le_pow_right (n := 2) (by omega) hi; simpa using this))
theorem testBit_not {m i : Nat} (hm : m < 18446744073709551616) : (18446744073709551615 - m).testBit i = (decide (i < 64) && !m.testBit i) := by
  have e : (2 : Nat) ^ 64 = 18446744073709551616 := by decide
  have h : 18446744073709551615 - m = 2 ^ 64 - (m + 1) := by omega
  rw [h, Nat.testBit_two_pow_sub_succ (by omega)]
theorem testBit_set {w s d v : Nat} (i : Nat) (hw : w < 18446744073709551616) (h : s + d ≤ 64) (hv : v < 2 ^ d) :
    (set w s d v).testBit i = if s ≤ i ∧ i < s + d then v.testBit (i - s) else w.testBit i := by
  unfold set
  rw [Nat.testBit_or, Nat.testBit_and, testBit_not (mask_lt h), testBit_mask, Nat.testBit_shiftLeft]
  by_cases h1 : s ≤ i ∧ i < s + d
  · simp [h1]
  · rw [if_neg h1]
    have h2 : (decide (i ≥ s) && v.testBit (i - s)) = false := by
      by_cases h3 : s ≤ i
      · have : v.testBit (i - s) = false := Nat.testBit_lt_two_pow (Nat.lt_of_lt_of_le hv (Nat.pow_le_pow_right (by omega) (by omega)))
        simp [this]
      · simp [h3]
    rw [h2]
    by_cases h4 : i < 64
    · simp [h1, h4]
    · rw [testBit_out hw (by omega)]; simp
theorem lt_of_bits {x : Nat} (h : ∀ i, 64 ≤ i → x.testBit i = false) : x < 18446744073709551616 := by
  have := Nat.lt_pow_two_of_testBit (n := 64) x h
  simpa using this
theorem set_lt {w s d v : Nat} (hw : w < 18446744073709551616) (h : s + d ≤ 64) (hv : v < 2 ^ d) : set w s d v < 18446744073709551616 :=
  lt_of_bits fun i hi => by rw [testBit_set i hw h hv, if_neg (by omega)]; exact testBit_out hw hi
theorem get_lt (w s d : Nat) : get w s d < 2 ^ d := Nat.lt_pow_two_of_testBit _ fun i hi => by rw [testBit_get]; simp; omega
theorem get_set {w s d v : Nat} (hw : w < 18446744073709551616) (h : s + d ≤ 64) (hv : v < 2 ^ d) : get (set w s d v) s d = v :=
  Nat.eq_of_testBit_eq fun i => by
    rw [testBit_get, testBit_set _ hw h hv]
    by_cases hi : i < d
    · simp [hi]
    · have : v.testBit i = false := Nat.testBit_lt_two_pow (Nat.lt_of_lt_of_le hv (Nat.pow_le_pow_right (by omega) (by omega)))
      simp [hi, this]
theorem get_set_other {w s d v s' d' : Nat} (hw : w < 18446744073709551616) (h : s + d ≤ 64) (hv : v < 2 ^ d) (ha : s + d ≤ s' ∨ s' + d' ≤ s) : get (set w s d v) s' d' = get w s' d' :=
  Nat.eq_of_testBit_eq fun i => by
    rw [testBit_get, testBit_get, testBit_set _ hw h hv]
    by_cases hi : i < d'
    · rw [if_neg (by omega)]
    · simp [hi]
theorem set_back {w s d v : Nat} (hw : w < 18446744073709551616) (h : s + d ≤ 64) (hv : v < 2 ^ d) : set (set w s d v) s d (get w s d) = w :=
  Nat.eq_of_testBit_eq fun i => by
    rw [testBit_set _ (set_lt hw h hv) h (get_lt w s d), testBit_set _ hw h hv, testBit_get]
    by_cases hi : s ≤ i ∧ i < s + d
    · rw [if_pos hi, show s + (i - s) = i from by omega]; simp; omega
    · rw [if_neg hi, if_neg hi]
theorem mask_apart {s d s' d' : Nat} (hd : 1 ≤ d) (hd' : 1 ≤ d') : (mask s d &&& mask s' d' = 0) ↔ (s + d ≤ s' ∨ s' + d' ≤ s) := by
  constructor
  · intro h
    by_cases hc : s + d ≤ s' ∨ s' + d' ≤ s
    · exact hc
    · exfalso
      have h1 := congrArg (fun x => x.testBit (max s s')) h
      simp only [Nat.testBit_and, testBit_mask, Nat.zero_testBit] at h1
      simp only [Bool.and_eq_false_iff, decide_eq_false_iff_not] at h1
      omega
  · intro h
    refine Nat.eq_of_testBit_eq fun i => ?_
    simp only [Nat.testBit_and, testBit_mask, Nat.zero_testBit, Bool.and_eq_false_iff, decide_eq_false_iff_not]
    omega
theorem mask_join {s a b : Nat} : mask s a ||| mask (s + a) b = mask s (a + b) :=
  Nat.eq_of_testBit_eq fun i => by
    rw [Nat.testBit_or, testBit_mask, testBit_mask, testBit_mask, Bool.eq_iff_iff]
    simp only [Bool.or_eq_true, decide_eq_true_eq]
    omega
theorem mask_pos {s d : Nat} (hd : 1 ≤ d) : 0 < mask s d := by
  rcases Nat.eq_zero_or_pos (mask s d) with h | h
  · have h1 := congrArg (fun x => x.testBit s) h
    simp only [testBit_mask, Nat.zero_testBit, decide_eq_false_iff_not] at h1
    omega
  · exact h
/-- A number with nothing above its part's most, and what stands there of it. -/
theorem and_most_le (v d : Nat) : v &&& most d < 2 ^ d := Nat.lt_of_le_of_lt Nat.and_le_right (most_lt d)
theorem mask_shift (s d : Nat) : mask s d >>> s = most d := by
  unfold mask; exact Nat.shiftLeft_shiftRight _ _

/-! ### Packing -/
/-- How far from the lowest bit the part of number k stands. -/
def sh (ds : List Nat) (k : Nat) : Nat := (ds.take k).sum
theorem sh_zero (ds : List Nat) : sh ds 0 = 0 := by simp [sh]
theorem sh_succ (ds : List Nat) (k : Nat) : sh ds (k + 1) = sh ds k + ds.getD k 0 := by
  unfold sh
  rw [List.take_add_one, List.sum_append]
  cases h : ds[k]? <;> simp [List.getD, h]
theorem sh_all (ds : List Nat) : sh ds ds.length = ds.sum := by simp [sh]
theorem sh_mono (ds : List Nat) {j k : Nat} (h : j ≤ k) : sh ds j ≤ sh ds k := by
  induction k with
  | zero => obtain rfl : j = 0 := by omega
            exact Nat.le_refl _
  | succ k ih =>
    by_cases e : j = k + 1
    · subst e; exact Nat.le_refl _
    · rw [sh_succ]; have := ih (by omega); omega
theorem sh_next (ds : List Nat) {j k : Nat} (h : j < k) : sh ds j + ds.getD j 0 ≤ sh ds k := by
  rw [← sh_succ]; exact sh_mono ds h
theorem sh_le (ds : List Nat) (k : Nat) : sh ds k ≤ ds.sum := by
  by_cases h : k ≤ ds.length
  · rw [← sh_all]; exact sh_mono ds h
  · unfold sh; rw [List.take_of_length_le (by omega)]; exact Nat.le_refl _
theorem sh_in (ds : List Nat) (k : Nat) : sh ds k + ds.getD k 0 ≤ ds.sum := by rw [← sh_succ]; exact sh_le ds _

/-- The word behind the numbers whose places are listed. -/
def acc (ds vs : List Nat) (l : List Nat) : Nat := l.foldl (fun w k => set w (sh ds k) (ds.getD k 0) (vs.getD k 0)) 0
theorem acc_snoc (ds vs l : List Nat) (k : Nat) : acc ds vs (l ++ [k]) = set (acc ds vs l) (sh ds k) (ds.getD k 0) (vs.getD k 0) := by simp [acc]
theorem acc_lt (ds vs l : List Nat) (hs : ds.sum ≤ 64) (hv : ∀ k, vs.getD k 0 < 2 ^ ds.getD k 0) : acc ds vs l < 18446744073709551616 := by
  unfold acc
  have key : ∀ (l : List Nat) (w : Nat), w < 18446744073709551616 → l.foldl (fun w k => set w (sh ds k) (ds.getD k 0) (vs.getD k 0)) w < 18446744073709551616 := by
    intro l
    induction l with
    | nil => intro w h; exact h
    | cons k r ih => intro w h; exact ih _ (set_lt h (by have := sh_in ds k; omega) (hv k))
  exact key l 0 (by decide)
theorem acc_bits (ds vs : List Nat) (hs : ds.sum ≤ 64) (hv : ∀ k, vs.getD k 0 < 2 ^ ds.getD k 0) (m i : Nat) :
    (acc ds vs (List.range m)).testBit i = (List.range m).any (fun j => decide (sh ds j ≤ i ∧ i < sh ds j + ds.getD j 0) && (vs.getD j 0).testBit (i - sh ds j)) := by
  induction m with
  | zero => simp [acc]
  | succ m ih =>
    rw [List.range_succ, acc_snoc, testBit_set i (acc_lt ds vs _ hs hv) (by have := sh_in ds m; omega) (hv m), List.any_append, ih]
    by_cases h : sh ds m ≤ i ∧ i < sh ds m + ds.getD m 0
    · rw [if_pos h]
      have h0 : (List.range m).any (fun j => decide (sh ds j ≤ i ∧ i < sh ds j + ds.getD j 0) && (vs.getD j 0).testBit (i - sh ds j)) = false := by
        rw [List.any_eq_false]
        intro j hj
        have := sh_next ds (List.mem_range.1 hj)
        simp only [Bool.and_eq_true, decide_eq_true_eq, not_and]
        omega
      rw [h0]; simp only [List.any_cons, List.any_nil, Bool.or_false, Bool.false_or, decide_eq_true h, Bool.true_and]
    · rw [if_neg h]; simp only [List.any_cons, List.any_nil, Bool.or_false, decide_eq_false h, Bool.false_and]
theorem get_acc (ds vs : List Nat) (hs : ds.sum ≤ 64) (hv : ∀ k, vs.getD k 0 < 2 ^ ds.getD k 0) {m j : Nat} (hj : j < m) :
    get (acc ds vs (List.range m)) (sh ds j) (ds.getD j 0) = vs.getD j 0 := by
  induction m with
  | zero => omega
  | succ m ih =>
    rw [List.range_succ, acc_snoc]
    have hm := sh_in ds m
    by_cases e : j = m
    · subst e; exact get_set (acc_lt ds vs _ hs hv) (by omega) (hv j)
    · rw [get_set_other (acc_lt ds vs _ hs hv) (by omega) (hv m) (.inr (sh_next ds (by omega)))]
      exact ih (by omega)
/-- What is left of a word when the parts whose places are listed are taken out. -/
def rest (ds : List Nat) (w : Nat) (l : List Nat) : Nat := l.foldl (fun w k => w &&& (18446744073709551615 - mask (sh ds k) (ds.getD k 0))) w
theorem rest_snoc (ds : List Nat) (w : Nat) (l : List Nat) (k : Nat) : rest ds w (l ++ [k]) = rest ds w l &&& (18446744073709551615 - mask (sh ds k) (ds.getD k 0)) := by simp [rest]
theorem rest_lt (ds : List Nat) (w : Nat) (l : List Nat) (hw : w < 18446744073709551616) : rest ds w l < 18446744073709551616 := by
  unfold rest
  induction l generalizing w with
  | nil => exact hw
  | cons k r ih => exact ih _ (Nat.lt_of_le_of_lt Nat.and_le_left hw)
theorem rest_bits (ds : List Nat) (w : Nat) (hw : w < 18446744073709551616) (hs : ds.sum ≤ 64) (m i : Nat) : (rest ds w (List.range m)).testBit i = (decide (sh ds m ≤ i) && w.testBit i) := by
  induction m with
  | zero => simp [rest, sh_zero]
  | succ m ih =>
    have hm := sh_in ds m
    rw [List.range_succ, rest_snoc, Nat.testBit_and, ih, testBit_not (mask_lt (by omega)), testBit_mask, sh_succ]
    by_cases hi : i < 64
    · rw [Bool.eq_iff_iff]
      simp only [hi, decide_true, Bool.true_and, Bool.and_eq_true, decide_eq_true_eq, Bool.not_eq_true', decide_eq_false_iff_not]
      constructor
      · rintro ⟨⟨h1, h2⟩, h3⟩; exact ⟨by omega, h2⟩
      · rintro ⟨h1, h2⟩; exact ⟨⟨by omega, h2⟩, by omega⟩
    · simp [testBit_out hw (Nat.le_of_not_lt hi)]
theorem rest_zero (ds : List Nat) (w : Nat) (hw : w < 18446744073709551616) (hs : ds.sum ≤ 64) : rest ds w (List.range ds.length) = 0 ↔ w < 2 ^ ds.sum := by
  constructor
  · intro h
    refine Nat.lt_pow_two_of_testBit _ fun i hi => ?_
    have h1 := congrArg (fun x => x.testBit i) h
    simp only [rest_bits ds w hw hs, Nat.zero_testBit, sh_all] at h1
    simpa [show ds.sum ≤ i from hi] using h1
  · intro h
    refine Nat.eq_of_testBit_eq fun i => ?_
    rw [rest_bits ds w hw hs, sh_all, Nat.zero_testBit]
    by_cases hi : ds.sum ≤ i
    · rw [Nat.testBit_lt_two_pow (Nat.lt_of_lt_of_le h (Nat.pow_le_pow_right (by omega) hi))]; simp
    · simp [hi]
/-- The numbers of a word. -/
def nums (ds : List Nat) (w : Nat) (l : List Nat) : List Nat := l.map fun k => get w (sh ds k) (ds.getD k 0)
theorem nums_snoc (ds : List Nat) (w : Nat) (l : List Nat) (k : Nat) : nums ds w (l ++ [k]) = nums ds w l ++ [get w (sh ds k) (ds.getD k 0)] := by simp [nums]
theorem nums_length (ds : List Nat) (w : Nat) (l : List Nat) : (nums ds w l).length = l.length := by simp [nums]
theorem nums_getD (ds : List Nat) (w n k : Nat) (h : k < n) : (nums ds w (List.range n)).getD k 0 = get w (sh ds k) (ds.getD k 0) := by simp [nums, List.getD, h]
theorem nums_acc (ds vs : List Nat) (hs : ds.sum ≤ 64) (hv : ∀ k, vs.getD k 0 < 2 ^ ds.getD k 0) (hl : vs.length = ds.length) :
    nums ds (acc ds vs (List.range ds.length)) (List.range ds.length) = vs := by
  refine List.ext_getElem (by simp [nums, hl]) fun k h1 h2 => ?_
  simp only [nums, List.getElem_map, List.getElem_range]
  rw [get_acc ds vs hs hv (by omega)]
  simp [List.getD, h2]
theorem acc_fits (ds vs : List Nat) (hs : ds.sum ≤ 64) (hv : ∀ k, vs.getD k 0 < 2 ^ ds.getD k 0) : acc ds vs (List.range ds.length) < 2 ^ ds.sum :=
  Nat.lt_pow_two_of_testBit _ fun i hi => by
    rw [acc_bits ds vs hs hv, List.any_eq_false]
    intro j hj
    have := sh_in ds j
    simp only [Bool.and_eq_true, decide_eq_true_eq, not_and]
    omega
theorem in_part (ds : List Nat) {i : Nat} (h : i < ds.sum) : ∃ j, j < ds.length ∧ sh ds j ≤ i ∧ i < sh ds j + ds.getD j 0 := by
  have key : ∀ m, i < sh ds m → ∃ j, j < m ∧ sh ds j ≤ i ∧ i < sh ds j + ds.getD j 0 := by
    intro m
    induction m with
    | zero => intro h; rw [sh_zero] at h; omega
    | succ m ih =>
      intro h
      by_cases hm : i < sh ds m
      · obtain ⟨j, h1, h2⟩ := ih hm; exact ⟨j, by omega, h2⟩
      · exact ⟨m, by omega, by omega, by rw [sh_succ] at h; exact h⟩
  exact key _ (by rw [sh_all]; exact h)
theorem acc_nums (ds : List Nat) (w : Nat) (hs : ds.sum ≤ 64) (hw : w < 2 ^ ds.sum) : acc ds (nums ds w (List.range ds.length)) (List.range ds.length) = w := by
  have hv : ∀ k, (nums ds w (List.range ds.length)).getD k 0 < 2 ^ ds.getD k 0 := by
    intro k
    by_cases h : k < ds.length
    · rw [nums_getD _ _ _ _ h]; exact get_lt _ _ _
    · rw [List.getD, List.getElem?_eq_none (by simp [nums]; omega)]; exact Nat.two_pow_pos _
  refine Nat.eq_of_testBit_eq fun i => ?_
  rw [acc_bits ds _ hs hv, Bool.eq_iff_iff, List.any_eq_true]
  constructor
  · rintro ⟨j, hj, h⟩
    have hj' := List.mem_range.1 hj
    rw [nums_getD _ _ _ _ hj', testBit_get] at h
    simp only [Bool.and_eq_true, decide_eq_true_eq] at h
    rw [show sh ds j + (i - sh ds j) = i from by omega] at h
    exact h.2.1
  · intro h
    have hi : i < ds.sum := by
      by_cases h1 : i < ds.sum
      · exact h1
      · rw [Nat.testBit_lt_two_pow (Nat.lt_of_lt_of_le hw (Nat.pow_le_pow_right (by omega) (by omega)))] at h; simp at h
    obtain ⟨j, h1, h2, h3⟩ := in_part ds hi
    refine ⟨j, List.mem_range.2 h1, ?_⟩
    rw [nums_getD _ _ _ _ h1, testBit_get]
    simp only [Bool.and_eq_true, decide_eq_true_eq]
    rw [show sh ds j + (i - sh ds j) = i from by omega]
    exact ⟨⟨h2, h3⟩, h, by omega⟩
/-- One number alone, all others 0, stands where its part is. -/
theorem acc_alone (ds vs : List Nat) (hs : ds.sum ≤ 64) (hv : ∀ k, vs.getD k 0 < 2 ^ ds.getD k 0) (k : Nat) (hk : k < ds.length) (h0 : ∀ j, j ≠ k → vs.getD j 0 = 0) :
    acc ds vs (List.range ds.length) = vs.getD k 0 <<< sh ds k := by
  refine Nat.eq_of_testBit_eq fun i => ?_
  rw [acc_bits ds _ hs hv, Nat.testBit_shiftLeft, Bool.eq_iff_iff, List.any_eq_true]
  constructor
  · rintro ⟨j, hj, h⟩
    by_cases e : j = k
    · subst e
      simp only [Bool.and_eq_true, decide_eq_true_eq] at h
      rw [h.2]; simp [h.1.1]
    · rw [h0 j e] at h; simp at h
  · intro h
    simp only [Bool.and_eq_true, decide_eq_true_eq] at h
    refine ⟨k, List.mem_range.2 hk, ?_⟩
    have h1 : i - sh ds k < ds.getD k 0 := by
      by_cases h1 : i - sh ds k < ds.getD k 0
      · exact h1
      · rw [Nat.testBit_lt_two_pow (Nat.lt_of_lt_of_le (hv k) (Nat.pow_le_pow_right (by omega) (by omega)))] at h; simp at h
    simp only [Bool.and_eq_true, decide_eq_true_eq]
    exact ⟨⟨h.1, by omega⟩, h.2⟩

end Go.Proofs.Ytoohnnkhklifdaa.Wd

namespace Go.Proofs.Ytoohnnkhklifdaa
open Go.ChangeShapes Go.WideShapes Go.ChangeAt Go.RowKit

theorem right_yes (s d : Int) (w : World) (h1 : 0 ≤ s) (h2 : 1 ≤ d) (h3 : s + d ≤ 64) :
    Calls Try.prog 82 #[.agg #[.int .i64 s, .int .i64 d]] w fun e w' => e = .returned (.bool true) ∧ Below w.heap.size w w' := by
  have a1 : s < 64 := by omega
  have a2 : d ≤ 64 := by omega
  go_enter Try.func82, Try.ntmps82
  go_wp2
  go_ret
  exact ⟨rfl, (Below.refl _ _).alloc (Nat.le_refl _) _⟩

theorem most_val (d : Int) (h2 : 1 ≤ d) (h3 : d ≤ 64) : (18446744073709551615 : Int) / 2 ^ (64 - d).toNat = ((Wd.most d.toNat : Nat) : Int) := by
  obtain ⟨k, rfl⟩ : ∃ k : Nat, d = k := ⟨d.toNat, by omega⟩
  have h4 : k ≤ 64 := by omega
  rw [Int.toNat_natCast, show ((64 : Int) - (k : Int)).toNat = 64 - k from by omega]
  have e : (18446744073709551615 : Int) = ((2 ^ 64 - 1 : Nat) : Int) := by decide
  have e2 : (2 : Int) ^ (64 - k) = ((2 ^ (64 - k) : Nat) : Int) := by simp
  rw [e, e2, ← Int.natCast_ediv]
  unfold Wd.most
  congr 1
  have h5 : 2 ^ 64 = 2 ^ k * 2 ^ (64 - k) := by rw [← Nat.pow_add]; congr 1; omega
  have hp := Nat.two_pow_pos (64 - k)
  have hk := Nat.two_pow_pos k
  rw [h5]
  generalize 2 ^ (64 - k) = q at *
  generalize 2 ^ k = r at *
  refine Nat.div_eq_of_lt_le ?_ ?_
  · have : (r - 1) * q + q = r * q := by rw [Nat.sub_mul]; have := Nat.mul_le_mul_right q hk; omega
    omega
  · rw [show r - 1 + 1 = r from by omega]
    have := Nat.mul_pos hk hp
    omega

theorem most_any (s d : Int) (w : World) (h2 : 1 ≤ d) (h3 : d ≤ 64) :
    Calls Try.prog 83 #[.agg #[.int .i64 s, .int .i64 d]] w fun e w' => e = .returned (.int .u64 ((Wd.most d.toNat : Nat) : Int)) ∧ Below w.heap.size w w' := by
  have hv := Lib.hid (most_val d h2 h3)
  go_enter Try.func83, Try.ntmps83
  go_wp2
  go_ret
  exact ⟨by rw [← hv.out]; rfl, (Below.refl _ _).alloc (Nat.le_refl _) _⟩

/-- A part that lies in a block of its own. -/
def PartAt (w : World) (b : Nat) (s d : Int) : Prop := w.cell? ⟨b, 0, none⟩ = some (.int .i64 s) ∧ w.cell? ⟨b, 1, none⟩ = some (.int .i64 d) ∧ b < w.heap.size
theorem PartAt.below {w w' : World} {b n : Nat} {s d : Int} (h : PartAt w b s d) (hb : Below n w w') (hn : b < n) : PartAt w' b s d :=
  ⟨(hb.cell (p := ⟨b, 0, none⟩) hn).trans h.1, (hb.cell (p := ⟨b, 1, none⟩) hn).trans h.2.1, Nat.lt_of_lt_of_le h.2.2 (Nat.le_trans hb.size (Nat.le_refl _))⟩

theorem keepPart {w x y : World} {b n : Nat} {s d : Int} (h : x.cell? ⟨b, 0, none⟩ = some (.int .i64 s) ∧ x.cell? ⟨b, 1, none⟩ = some (.int .i64 d) ∧ n ≤ x.heap.size ∧ b < x.heap.size ∧ Below n w x) (hb : Below x.heap.size x y) :
    y.cell? ⟨b, 0, none⟩ = some (.int .i64 s) ∧ y.cell? ⟨b, 1, none⟩ = some (.int .i64 d) ∧ n ≤ y.heap.size ∧ b < y.heap.size ∧ Below n w y :=
  ⟨(hb.cell (p := ⟨b, 0, none⟩) h.2.2.2.1).trans h.1, (hb.cell (p := ⟨b, 1, none⟩) h.2.2.2.1).trans h.2.1, Nat.le_trans h.2.2.1 hb.size, Nat.lt_of_lt_of_le h.2.2.2.1 hb.size, h.2.2.2.2.trans (hb.mono h.2.2.1)⟩
/-- The box of a part that came in, when something has been called behind it. -/
theorem box_part {w w' : World} {s d : Int} (t : TypeId) (hb : Below (w.heap.size + 1) (w.alloc (.cells #[.int .i64 s, .int .i64 d] t)) w') :
    w'.cell? ⟨w.heap.size, 0, none⟩ = some (.int .i64 s) ∧ w'.cell? ⟨w.heap.size, 1, none⟩ = some (.int .i64 d) ∧ w.heap.size ≤ w'.heap.size ∧ w.heap.size < w'.heap.size ∧ Below w.heap.size w w' := by
  have hsz : w.heap.size < w'.heap.size := by have := hb.size; simp at this; omega
  exact ⟨(hb.cell (p := ⟨w.heap.size, 0, none⟩) (by simp)).trans (by simp), (hb.cell (p := ⟨w.heap.size, 1, none⟩) (by simp)).trans (by simp), by omega, hsz, ((Below.refl w.heap.size w).alloc (Nat.le_refl _) _).trans (hb.mono (by omega))⟩

theorem mask_val (s d : Int) (h1 : 0 ≤ s) (h2 : 1 ≤ d) (h3 : s + d ≤ 64) : IntKind.u64.wrap (((Wd.most d.toNat : Nat) : Int) * 2 ^ s.toNat) = ((Wd.mask s.toNat d.toNat : Nat) : Int) := by
  have hk := Wd.mask_lt (s := s.toNat) (d := d.toNat) (by omega)
  have e2 : (2 : Int) ^ s.toNat = ((2 ^ s.toNat : Nat) : Int) := by simp
  rw [e2, ← Int.natCast_mul, IntKind.wrap_u64]
  unfold Wd.mask at *
  rw [Nat.shiftLeft_eq] at *
  omega

theorem mask_any (s d : Int) (w : World) (h1 : 0 ≤ s) (h2 : 1 ≤ d) (h3 : s + d ≤ 64) :
    Calls Try.prog 84 #[.agg #[.int .i64 s, .int .i64 d]] w fun e w' => e = .returned (.int .u64 ((Wd.mask s.toNat d.toNat : Nat) : Int)) ∧ Below w.heap.size w w' := by
  have hv := Lib.hid (mask_val s d h1 h2 h3)
  go_enter Try.func84, Try.ntmps84
  go_wp2_with (go_at_call 82; refine (right_yes _ _ _ h1 h2 h3).mono ?_; rintro e w' ⟨rfl, hb⟩)
  obtain ⟨hc0, hc1, hsz, hsz', hbw⟩ := box_part 114 (by simpa using hb)
  clear hb
  go_region_held3 (fun x => x.cell? ⟨w.heap.size, 0, none⟩ = some (.int .i64 s) ∧ x.cell? ⟨w.heap.size, 1, none⟩ = some (.int .i64 d) ∧ w.heap.size ≤ x.heap.size ∧ w.heap.size < x.heap.size ∧ Below w.heap.size w x) (first | exact ⟨hc0, hc1, hsz, hsz', hbw.drew⟩ | exact keepPart (by assumption) hb2)
    (first | (go_at_call 83; refine (most_any _ _ _ h2 (by omega)).mono ?_; rintro e w2 ⟨rfl, hb2⟩))
  go_wp2
  go_ret
  exact ⟨by rw [← hv.out]; rfl, (‹_ ∧ _ ∧ _ ∧ _ ∧ Below w.heap.size w _›).2.2.2.2⟩

theorem get_val (a s d : Int) (h0 : 0 ≤ a) (h1 : a < 18446744073709551616) (h2 : d ≤ 64) :
    bits .and .u64 (a / 2 ^ s.toNat) ((Wd.most d.toNat : Nat) : Int) = ((Wd.get a.toNat s.toNat d.toNat : Nat) : Int) := by
  have hm := Wd.most_lt d.toNat
  have hp := Wd.pow_le64 (d := d.toNat) (by omega)
  obtain ⟨k, rfl⟩ : ∃ k : Nat, a = k := ⟨a.toNat, by omega⟩
  have e2 : (2 : Int) ^ s.toNat = ((2 ^ s.toNat : Nat) : Int) := by simp
  rw [e2, ← Int.natCast_ediv]
  have hd : k / 2 ^ s.toNat ≤ k := Nat.div_le_self _ _
  rw [u64_and_nat _ _ (by omega) (by omega), Int.toNat_natCast]
  unfold Wd.get
  rw [Nat.shiftRight_eq_div_pow]
theorem set_val (a s d v : Int) (h0 : 0 ≤ a) (h1 : a < 18446744073709551616) (g0 : 0 ≤ s) (g1 : 1 ≤ d) (g2 : s + d ≤ 64) (h2 : 0 ≤ v) (h3 : v ≤ ((Wd.most d.toNat : Nat) : Int)) :
    bits .or .u64 (bits .andNot .u64 a ((Wd.mask s.toNat d.toNat : Nat) : Int)) (IntKind.u64.wrap (v * 2 ^ s.toNat)) = ((Wd.set a.toNat s.toNat d.toNat v.toNat : Nat) : Int) := by
  have hm := Wd.most_lt d.toNat
  obtain ⟨k, rfl⟩ : ∃ k : Nat, a = k := ⟨a.toNat, by omega⟩
  obtain ⟨u, rfl⟩ : ∃ u : Nat, v = u := ⟨v.toNat, by omega⟩
  obtain ⟨s', rfl⟩ : ∃ k : Nat, s = k := ⟨s.toNat, by omega⟩
  obtain ⟨d', rfl⟩ : ∃ k : Nat, d = k := ⟨d.toNat, by omega⟩
  simp only [Int.toNat_natCast] at *
  have hk := Wd.mask_lt (s := s') (d := d') (by omega)
  have e2 : (2 : Int) ^ s' = ((2 ^ s' : Nat) : Int) := by simp
  have hw : (u : Int) * 2 ^ s' < 18446744073709551616 ∧ 0 ≤ (u : Int) * 2 ^ s' := by
    rw [e2, ← Int.natCast_mul]
    have h4 : u * 2 ^ s' < 2 ^ d' * 2 ^ s' := Nat.mul_lt_mul_of_pos_right (by omega) (Nat.two_pow_pos s')
    rw [← Nat.pow_add] at h4
    have := Wd.pow_le64 (d := d' + s') (by omega)
    omega
  rw [IntKind.wrap_u64, Int.emod_eq_of_lt hw.2 hw.1, u64_andNot_nat _ _ (by omega) hk, e2, ← Int.natCast_mul]
  have h5 : k &&& (18446744073709551615 - Wd.mask s' d') ≤ k := Nat.and_le_left
  rw [u64_or_nat _ _ (by omega) (by rw [e2, ← Int.natCast_mul] at hw; omega)]
  unfold Wd.set
  rw [Nat.shiftLeft_eq]

theorem get_any (a s d : Int) (w : World) (h0 : 0 ≤ a) (h4 : a < 18446744073709551616) (h1 : 0 ≤ s) (h2 : 1 ≤ d) (h3 : s + d ≤ 64) :
    Calls Try.prog 80 #[.int .u64 a, .agg #[.int .i64 s, .int .i64 d]] w fun e w' => e = .returned (.int .u64 ((Wd.get a.toNat s.toNat d.toNat : Nat) : Int)) ∧ Below w.heap.size w w' := by
  have hv := Lib.hid (get_val a s d h0 h4 (by omega))
  go_enter Try.func80, Try.ntmps80
  go_wp2_with (go_at_call 82; refine (right_yes _ _ _ h1 h2 h3).mono ?_; rintro e w' ⟨rfl, hb⟩)
  obtain ⟨hc0, hc1, hsz, hsz', hbw⟩ := box_part 114 (by simpa using hb)
  clear hb
  go_region_held3 (fun x => x.cell? ⟨w.heap.size, 0, none⟩ = some (.int .i64 s) ∧ x.cell? ⟨w.heap.size, 1, none⟩ = some (.int .i64 d) ∧ w.heap.size ≤ x.heap.size ∧ w.heap.size < x.heap.size ∧ Below w.heap.size w x) (first | exact ⟨hc0, hc1, hsz, hsz', hbw.drew⟩ | exact keepPart (by assumption) hb2)
    (first | (go_at_call 83; refine (most_any _ _ _ h2 (by omega)).mono ?_; rintro e w2 ⟨rfl, hb2⟩))
  go_wp2
  go_ret
  exact ⟨by rw [← hv.out]; rfl, (‹_ ∧ _ ∧ _ ∧ _ ∧ Below w.heap.size w _›).2.2.2.2⟩

theorem set_yes (a s d v : Int) (w : World) (h0 : 0 ≤ a) (h4 : a < 18446744073709551616) (h1 : 0 ≤ s) (h2 : 1 ≤ d) (h3 : s + d ≤ 64) (h5 : 0 ≤ v) (h6 : v ≤ ((Wd.most d.toNat : Nat) : Int)) :
    Calls Try.prog 76 #[.int .u64 a, .agg #[.int .i64 s, .int .i64 d], .int .u64 v] w fun e w' => e = .returned (.tuple #[.int .u64 ((Wd.set a.toNat s.toNat d.toNat v.toNat : Nat) : Int), .bool true]) ∧ Below w.heap.size w w' := by
  have hv := Lib.hid (set_val a s d v h0 h4 h1 h2 h3 h5 h6)
  go_enter Try.func76, Try.ntmps76
  go_wp2_with fail
  refine (right_yes _ _ _ h1 h2 h3).mono ?_
  rintro e w' ⟨rfl, hb⟩
  obtain ⟨hc0, hc1, hsz, hsz', hbw⟩ := box_part 114 (by simpa using hb)
  clear hb
  go_wp2_with fail
  refine (most_any _ _ _ h2 (by omega)).mono ?_
  rintro e w3 ⟨rfl, hb3⟩
  obtain ⟨hc0, hc1, hsz, hsz', hbw⟩ := keepPart ⟨hc0, hc1, hsz, hsz', hbw⟩ hb3
  clear hb3
  go_wp2_with fail
  go_region_held3 (fun x => x.cell? ⟨w.heap.size, 0, none⟩ = some (.int .i64 s) ∧ x.cell? ⟨w.heap.size, 1, none⟩ = some (.int .i64 d) ∧ w.heap.size ≤ x.heap.size ∧ w.heap.size < x.heap.size ∧ Below w.heap.size w x) (first | exact ⟨hc0, hc1, hsz, hsz', hbw.drew⟩ | exact keepPart (by assumption) hb2)
    (first | (go_at_call 84; refine (mask_any _ _ _ h1 h2 h3).mono ?_; rintro e w2 ⟨rfl, hb2⟩))
  go_wp2
  go_ret2
  exact ⟨by rw [← hv.out]; rfl, (‹_ ∧ _ ∧ _ ∧ _ ∧ Below w.heap.size w _›).2.2.2.2⟩

end Go.Proofs.Ytoohnnkhklifdaa

namespace Go.Proofs.Ytoohnnkhklifdaa
open Go.ChangeShapes Go.WideShapes Go.ChangeAt Go.RowKit

set_option linter.unusedSimpArgs false
set_option linter.unusedVariables false

theorem part_any (f t : Int) (w : World) (h0 : 0 ≤ f) (h1 : f ≤ t) (h2 : t ≤ 64) :
    Calls Try.prog 77 #[.int .i64 f, .int .i64 t] w fun e w' => e = .returned (.agg #[.int .i64 f, .int .i64 (t - f)]) ∧ Below w.heap.size w w' := by
  have hw : IntKind.i64.wrap (t - f) = t - f := IntWalk.i64_in _ (by omega)
  go_enter Try.func77, Try.ntmps77
  go_wp2
  refine bodyPost_ret (v := .agg #[.int .i64 f, .int .i64 (t - f)]) ?_ rfl ⟨rfl, (Below.refl _ w).alloc (Nat.le_refl _) _⟩
  simp [results, Try.f77, go_sem]

theorem set_zero {n s d : Nat} (h : s + d ≤ 64) (hn : n < 2 ^ d) : Wd.set 0 s d n = n * 2 ^ s := by
  unfold Wd.set
  rw [Nat.zero_and, Nat.zero_or, Nat.shiftLeft_eq]
theorem get_mod (w s d : Nat) : Wd.get w s d = w / 2 ^ s % 2 ^ d := by
  unfold Wd.get Wd.most
  rw [Nat.shiftRight_eq_div_pow, Nat.and_two_pow_sub_one_eq_mod]

theorem lay_at (n s t : Nat) (hs : s < t) (ht : t ≤ 64) (hn : n < 2 ^ (t - s)) (hm : n < 9223372036854775808) (w : World) :
    Calls Try.prog 62 #[.int .i64 n, .int .i64 s, .int .i64 t] w fun e w' => e = .returned (.int .u64 ((n * 2 ^ s : Nat) : Int)) ∧ Below w.heap.size w w' := by
  have hM : (n : Int) ≤ ((Wd.most ((t : Int) - (s : Int)).toNat : Nat) : Int) := by
    rw [show ((t : Int) - (s : Int)).toNat = t - s from by omega]; unfold Wd.most; have := Nat.two_pow_pos (t - s); omega
  have hP := fun w => part_any (s : Int) (t : Int) w (by omega) (by omega) (by omega)
  have hS := fun w => set_yes 0 (s : Int) ((t : Int) - (s : Int)) (n : Int) w (by omega) (by omega) (by omega) (by omega) (by omega) (by omega) hM
  have hv : ((Wd.set (0 : Int).toNat (s : Int).toNat ((t : Int) - (s : Int)).toNat (n : Int).toNat : Nat) : Int) = ((n * 2 ^ s : Nat) : Int) := by
    rw [show ((t : Int) - (s : Int)).toNat = t - s from by omega, Int.toNat_natCast, Int.toNat_natCast]
    rw [show (0 : Int).toNat = 0 from rfl, set_zero (by omega) hn]
  simp only [hv] at hS
  clear hv
  obtain ⟨u, hu⟩ : ∃ u, n * 2 ^ s = u := ⟨_, rfl⟩
  rw [hu] at hS ⊢
  clear hu
  have HS := Lib.hid hS
  have hc : IntKind.u64.wrap (n : Int) = (n : Int) := by rw [IntKind.wrap_u64]; omega
  clear hS hM
  go_enter Try.func62, Try.ntmps62
  go_wp2_with fail
  refine (hP _).mono ?_
  rintro e x ⟨rfl, hb⟩
  have hs1 := hb.size
  go_wp2_with fail
  refine (HS.out _).mono ?_
  rintro e y ⟨rfl, hb2⟩
  go_wp2
  go_ret
  exact ⟨rfl, hb.trans (hb2.mono hs1)⟩

theorem read_at (a s t : Nat) (hs : s < t) (ht : t ≤ 64) (hd : t - s ≤ 63) (ha : a < 18446744073709551616) (w : World) :
    Calls Try.prog 73 #[.int .u64 a, .int .i64 s, .int .i64 t] w fun e w' => e = .returned (.int .i64 ((a / 2 ^ s % 2 ^ (t - s) : Nat) : Int)) ∧ Below w.heap.size w w' := by
  have hP := fun w => part_any (s : Int) (t : Int) w (by omega) (by omega) (by omega)
  have hG := fun w => get_any (a : Int) (s : Int) ((t : Int) - (s : Int)) w (by omega) (by omega) (by omega) (by omega) (by omega)
  simp only [show ((t : Int) - (s : Int)).toNat = t - s from by omega, Int.toNat_natCast, get_mod] at hG
  have hl : a / 2 ^ s % 2 ^ (t - s) < 9223372036854775808 := by
    have h1 := Nat.mod_lt (a / 2 ^ s) (Nat.two_pow_pos (t - s))
    have h2 := Nat.pow_le_pow_right (n := 2) (by omega) hd
    have h3 : (2 : Nat) ^ 63 = 9223372036854775808 := by decide
    omega
  obtain ⟨v, hv⟩ : ∃ v, a / 2 ^ s % 2 ^ (t - s) = v := ⟨_, rfl⟩
  rw [hv] at hG hl ⊢
  have HG := Lib.hid hG
  have hc : IntKind.i64.wrap (v : Int) = (v : Int) := IntWalk.i64_in _ (by omega)
  clear hG hv
  go_enter Try.func73, Try.ntmps73
  go_wp2_with fail
  refine (hP _).mono ?_
  rintro e x ⟨rfl, hb⟩
  have hs1 := hb.size
  go_wp2_with fail
  refine (HG.out _).mono ?_
  rintro e y ⟨rfl, hb2⟩
  go_wp2
  go_ret
  exact ⟨rfl, hb.trans (hb2.mono hs1)⟩

theorem flag_any (b : Bool) (w : World) : Calls Try.prog 63 #[.bool b] w fun e w' => e = .returned (.int .i64 (b.toNat : Nat)) ∧ w = w' := by
  go_enter Try.func63, Try.ntmps63
  cases b
  · go_wp2
    go_ret
    exact ⟨rfl, rfl⟩
  · go_wp2
    go_ret
    exact ⟨rfl, rfl⟩

def cnt (n : Int) : Bool := decide (0 ≤ n ∧ n ≤ 8)
theorem count_any (n : Int) (w : World) : Calls Try.prog 74 #[.int .i64 n] w fun e w' => e = .returned (.bool (cnt n)) ∧ Below w.heap.size w w' := by
  go_enter Try.func74, Try.ntmps74
  unfold cnt
  by_cases h : 0 ≤ n
  · have d1 : decide (0 ≤ n) = true := decide_eq_true h
    by_cases h2 : n ≤ 8
    · have d2 : decide (n ≤ 8) = true := decide_eq_true h2
      rw [decide_eq_true (show 0 ≤ n ∧ n ≤ 8 from ⟨h, h2⟩)]
      go_wp2
      go_ret
      exact ⟨rfl, Below.refl _ _⟩
    · have d2 : decide (n ≤ 8) = false := decide_eq_false h2
      rw [decide_eq_false (show ¬ (0 ≤ n ∧ n ≤ 8) from fun x => h2 x.2)]
      go_wp2
      go_ret
      exact ⟨rfl, Below.refl _ _⟩
  · have d1 : decide (0 ≤ n) = false := decide_eq_false h
    rw [decide_eq_false (show ¬ (0 ≤ n ∧ n ≤ 8) from fun x => h x.1)]
    go_wp2
    go_ret
    exact ⟨rfl, Below.refl _ _⟩


/-- Whether a shape may be. -/
def shB (p d : Int) (wk fn : Bool) : Bool := if wk then decide (p = 1) && decide (d = 0) && !fn else cnt p && cnt d
abbrev shV (p d : Int) (wk fn : Bool) : Value := .agg #[.int .i64 p, .int .i64 d, .bool wk, .bool fn]
/-- A shape that lies in block k, behind w. -/
abbrev ShAt (w x : World) (k : Nat) (p d : Int) (wk fn : Bool) : Prop :=
  x.cell? ⟨k, 0, none⟩ = some (.int .i64 p) ∧ x.cell? ⟨k, 1, none⟩ = some (.int .i64 d) ∧ x.cell? ⟨k, 2, none⟩ = some (.bool wk) ∧ x.cell? ⟨k, 3, none⟩ = some (.bool fn) ∧ w.heap.size ≤ x.heap.size ∧ k < x.heap.size ∧ Below w.heap.size w x
theorem keepSh {w x y : World} {k : Nat} {p d : Int} {wk fn : Bool} (h : ShAt w x k p d wk fn) (hb : Below x.heap.size x y) : ShAt w y k p d wk fn := by
  obtain ⟨c0, c1, c2, c3, hs, hk, hB⟩ := h
  exact ⟨(hb.cell (p := ⟨k, 0, none⟩) hk).trans c0, (hb.cell (p := ⟨k, 1, none⟩) hk).trans c1, (hb.cell (p := ⟨k, 2, none⟩) hk).trans c2, (hb.cell (p := ⟨k, 3, none⟩) hk).trans c3,
    Nat.le_trans hs hb.size, Nat.lt_of_lt_of_le hk hb.size, hB.trans (hb.mono hs)⟩
theorem newSh (w : World) (p d : Int) (wk fn : Bool) (ty : TypeId) : ShAt w (w.alloc (.cells #[.int .i64 p, .int .i64 d, .bool wk, .bool fn] ty)) w.heap.size p d wk fn :=
  ⟨by simp, by simp, by simp, by simp, by simp, by simp, (Below.refl _ _).alloc (Nat.le_refl _) _⟩

theorem right_sh (p d : Int) (wk fn : Bool) (w : World) :
    Calls Try.prog 60 #[shV p d wk fn] w fun e w' => e = .returned (.bool (shB p d wk fn)) ∧ Below w.heap.size w w' := by
  go_enter Try.func60, Try.ntmps60
  cases wk
  · have hP := count_any p
    have hD := count_any d
    rw [show shB p d false fn = (cnt p && cnt d) from rfl]
    generalize cnt p = cp at *
    generalize cnt d = cd at *
    cases cp
    · go_wp2_with fail
      refine (hP _).mono ?_
      rintro e x ⟨rfl, hb⟩
      go_wp2
      go_ret
      exact ⟨rfl, ((Below.refl _ w).alloc (Nat.le_refl _) _).trans (hb.mono (by simp))⟩
    · go_wp2_with fail
      refine (hP _).mono ?_
      rintro e x ⟨rfl, hb⟩
      have h0 := keepSh (newSh w p d false fn 32) hb
      clear hb
      obtain ⟨c0, c1, c2, c3, s1, k1, hB⟩ := h0
      go_wp2_with fail
      refine (hD _).mono ?_
      rintro e y ⟨rfl, hb2⟩
      go_wp2
      go_ret
      exact ⟨rfl, hB.trans (hb2.mono s1)⟩
  · rw [show shB p d true fn = (decide (p = 1) && decide (d = 0) && !fn) from rfl]
    go_wp2
    all_goals
      go_ret
      exact ⟨by simp [*], (Below.refl _ w).alloc (Nat.le_refl _) _⟩

theorem size_yes (p d : Nat) (wk fn : Bool) (h : shB p d wk fn = true) (hp : p ≤ 8) (hd : d ≤ 8) (w : World) :
    Calls Try.prog 37 #[shV p d wk fn] w fun e w' => e = .returned (.tuple #[.int .i64 (3 + (p : Int) + (d : Int)), .bool true]) ∧ Below w.heap.size w w' := by
  have hR := right_sh p d wk fn
  rw [h] at hR
  have i1 : IntKind.i64.wrap (3 + (p : Int)) = 3 + (p : Int) := IntWalk.i64_in _ (by omega)
  have i2 : IntKind.i64.wrap (3 + (p : Int) + (d : Int)) = 3 + (p : Int) + (d : Int) := IntWalk.i64_in _ (by omega)
  clear h
  go_enter Try.func37, Try.ntmps37
  go_wp2_with fail
  refine (hR _).mono ?_
  rintro e x ⟨rfl, hb⟩
  obtain ⟨c0, c1, c2, c3, s1, k1, hB⟩ := keepSh (newSh w p d wk fn 32) hb
  clear hb
  go_wp2
  go_ret2
  exact ⟨rfl, hB⟩
theorem size_no (p d : Int) (wk fn : Bool) (h : shB p d wk fn = false) (w : World) :
    Calls Try.prog 37 #[shV p d wk fn] w fun e w' => e = .returned (.tuple #[.int .i64 0, .bool false]) ∧ Below w.heap.size w w' := by
  have hR := right_sh p d wk fn
  rw [h] at hR
  clear h
  go_enter Try.func37, Try.ntmps37
  go_wp2_with fail
  refine (hR _).mono ?_
  rintro e x ⟨rfl, hb⟩
  obtain ⟨c0, c1, c2, c3, s1, k1, hB⟩ := keepSh (newSh w p d wk fn 32) hb
  clear hb
  go_wp2
  go_ret2
  exact ⟨rfl, hB⟩

/-! ### Parts as they are named -/
theorem lay_0_1 (n : Nat) (hn : n < 2) (hm : n < 9223372036854775808) (w : World) : Calls Try.prog 62 #[.int .i64 n, .int .i64 0, .int .i64 1] w fun e w' => e = .returned (.int .u64 (n * 1 : Nat)) ∧ Below w.heap.size w w' :=
  lay_at n 0 1 (by omega) (by omega) (by omega) hm w
theorem lay_1_2 (n : Nat) (hn : n < 2) (hm : n < 9223372036854775808) (w : World) : Calls Try.prog 62 #[.int .i64 n, .int .i64 1, .int .i64 2] w fun e w' => e = .returned (.int .u64 (n * 2 : Nat)) ∧ Below w.heap.size w w' :=
  lay_at n 1 2 (by omega) (by omega) (by omega) hm w
theorem lay_1_5 (n : Nat) (hn : n < 16) (hm : n < 9223372036854775808) (w : World) : Calls Try.prog 62 #[.int .i64 n, .int .i64 1, .int .i64 5] w fun e w' => e = .returned (.int .u64 (n * 2 : Nat)) ∧ Below w.heap.size w w' :=
  lay_at n 1 5 (by omega) (by omega) (by omega) hm w
theorem lay_5_9 (n : Nat) (hn : n < 16) (hm : n < 9223372036854775808) (w : World) : Calls Try.prog 62 #[.int .i64 n, .int .i64 5, .int .i64 9] w fun e w' => e = .returned (.int .u64 (n * 32 : Nat)) ∧ Below w.heap.size w w' :=
  lay_at n 5 9 (by omega) (by omega) (by omega) hm w
theorem lay_9_10 (n : Nat) (hn : n < 2) (hm : n < 9223372036854775808) (w : World) : Calls Try.prog 62 #[.int .i64 n, .int .i64 9, .int .i64 10] w fun e w' => e = .returned (.int .u64 (n * 512 : Nat)) ∧ Below w.heap.size w w' :=
  lay_at n 9 10 (by omega) (by omega) (by omega) hm w
theorem lay_10_11 (n : Nat) (hn : n < 2) (hm : n < 9223372036854775808) (w : World) : Calls Try.prog 62 #[.int .i64 n, .int .i64 10, .int .i64 11] w fun e w' => e = .returned (.int .u64 (n * 1024 : Nat)) ∧ Below w.heap.size w w' :=
  lay_at n 10 11 (by omega) (by omega) (by omega) hm w
theorem lay_11_12 (n : Nat) (hn : n < 2) (hm : n < 9223372036854775808) (w : World) : Calls Try.prog 62 #[.int .i64 n, .int .i64 11, .int .i64 12] w fun e w' => e = .returned (.int .u64 (n * 2048 : Nat)) ∧ Below w.heap.size w w' :=
  lay_at n 11 12 (by omega) (by omega) (by omega) hm w
theorem lay_2_64 (n : Nat) (hn : n < 4611686018427387904) (hm : n < 9223372036854775808) (w : World) : Calls Try.prog 62 #[.int .i64 n, .int .i64 2, .int .i64 64] w fun e w' => e = .returned (.int .u64 (n * 4 : Nat)) ∧ Below w.heap.size w w' :=
  lay_at n 2 64 (by omega) (by omega) (by omega) hm w
theorem lay_1_64 (n : Nat) (hn : n < 9223372036854775808) (hm : n < 9223372036854775808) (w : World) : Calls Try.prog 62 #[.int .i64 n, .int .i64 1, .int .i64 64] w fun e w' => e = .returned (.int .u64 (n * 2 : Nat)) ∧ Below w.heap.size w w' :=
  lay_at n 1 64 (by omega) (by omega) (by omega) hm w
theorem read_1_5 (a : Nat) (ha : a < 18446744073709551616) (w : World) : Calls Try.prog 73 #[.int .u64 a, .int .i64 1, .int .i64 5] w fun e w' => e = .returned (.int .i64 (a / 2 % 16 : Nat)) ∧ Below w.heap.size w w' :=
  read_at a 1 5 (by omega) (by omega) (by omega) ha w
theorem read_5_9 (a : Nat) (ha : a < 18446744073709551616) (w : World) : Calls Try.prog 73 #[.int .u64 a, .int .i64 5, .int .i64 9] w fun e w' => e = .returned (.int .i64 (a / 32 % 16 : Nat)) ∧ Below w.heap.size w w' :=
  read_at a 5 9 (by omega) (by omega) (by omega) ha w
theorem read_9_10 (a : Nat) (ha : a < 18446744073709551616) (w : World) : Calls Try.prog 73 #[.int .u64 a, .int .i64 9, .int .i64 10] w fun e w' => e = .returned (.int .i64 (a / 512 % 2 : Nat)) ∧ Below w.heap.size w w' :=
  read_at a 9 10 (by omega) (by omega) (by omega) ha w
theorem read_10_11 (a : Nat) (ha : a < 18446744073709551616) (w : World) : Calls Try.prog 73 #[.int .u64 a, .int .i64 10, .int .i64 11] w fun e w' => e = .returned (.int .i64 (a / 1024 % 2 : Nat)) ∧ Below w.heap.size w w' :=
  read_at a 10 11 (by omega) (by omega) (by omega) ha w
theorem read_11_12 (a : Nat) (ha : a < 18446744073709551616) (w : World) : Calls Try.prog 73 #[.int .u64 a, .int .i64 11, .int .i64 12] w fun e w' => e = .returned (.int .i64 (a / 2048 % 2 : Nat)) ∧ Below w.heap.size w w' :=
  read_at a 11 12 (by omega) (by omega) (by omega) ha w
theorem read_2_64 (a : Nat) (ha : a < 18446744073709551616) (w : World) : Calls Try.prog 73 #[.int .u64 a, .int .i64 2, .int .i64 64] w fun e w' => e = .returned (.int .i64 (a / 4 % 4611686018427387904 : Nat)) ∧ Below w.heap.size w w' :=
  read_at a 2 64 (by omega) (by omega) (by omega) ha w
theorem read_1_64 (a : Nat) (ha : a < 18446744073709551616) (w : World) : Calls Try.prog 73 #[.int .u64 a, .int .i64 1, .int .i64 64] w fun e w' => e = .returned (.int .i64 (a / 2 % 9223372036854775808 : Nat)) ∧ Below w.heap.size w w' :=
  read_at a 1 64 (by omega) (by omega) (by omega) ha w
theorem lay_one_0_1 (w : World) : Calls Try.prog 62 #[.int .i64 1, .int .i64 0, .int .i64 1] w fun e w' => e = .returned (.int .u64 1) ∧ Below w.heap.size w w' := lay_0_1 1 (by omega) (by omega) w
theorem lay_one_1_2 (w : World) : Calls Try.prog 62 #[.int .i64 1, .int .i64 1, .int .i64 2] w fun e w' => e = .returned (.int .u64 2) ∧ Below w.heap.size w w' := lay_1_2 1 (by omega) (by omega) w

/-! ### Heads -/
def headN (p d : Nat) (wk fn fr : Bool) : Nat := 1 + 2 * p + 32 * d + 512 * wk.toNat + 1024 * fn.toNat + 2048 * fr.toNat

theorem or_val (x y k z : Nat) (hx : x < 2 ^ k) (hy : y = 2 ^ k * z) (h1 : x < 18446744073709551616) (h2 : y < 18446744073709551616) : bits .or .u64 (x : Int) (y : Int) = ((x + y : Nat) : Int) := by
  rw [u64_or_nat _ _ h1 h2, Nat.or_comm, hy, ← Nat.two_pow_add_eq_or_of_lt hx, Nat.add_comm]

set_option maxRecDepth 100000 in
set_option maxHeartbeats 2000000 in
theorem head_yes (p d : Nat) (wk fn fr : Bool) (h : shB p d wk fn = true) (hp : p ≤ 8) (hd : d ≤ 8) (w : World) :
    Calls Try.prog 39 #[shV p d wk fn, .bool fr] w fun e w' => e = .returned (.tuple #[.int .u64 (headN p d wk fn fr : Nat), .bool true]) ∧ Below w.heap.size w w' := by
  have hR := right_sh p d wk fn
  rw [h] at hR
  clear h
  have F1 := flag_any wk
  have F2 := flag_any fn
  have F3 := flag_any fr
  have b1 : wk.toNat < 2 := by cases wk <;> decide
  have b2 : fn.toNat < 2 := by cases fn <;> decide
  have b3 : fr.toNat < 2 := by cases fr <;> decide
  unfold headN
  generalize wk.toNat = k1 at *
  generalize fn.toNat = k2 at *
  generalize fr.toNat = k3 at *
  have L1 := lay_1_5 p (by omega) (by omega)
  have L2 := lay_5_9 d (by omega) (by omega)
  have L3 := lay_9_10 k1 (by omega) (by omega)
  have L4 := lay_10_11 k2 (by omega) (by omega)
  have L5 := lay_11_12 k3 (by omega) (by omega)
  have o1 : bits .or .u64 1 _ = _ := or_val 1 (p * 2) 1 p (by omega) (by omega) (by omega) (by omega)
  have o2 := or_val (1 + p * 2) (d * 32) 5 d (by omega) (by omega) (by omega) (by omega)
  have o3 := or_val (1 + p * 2 + d * 32) (k1 * 512) 9 k1 (by omega) (by omega) (by omega) (by omega)
  have o4 := or_val (1 + p * 2 + d * 32 + k1 * 512) (k2 * 1024) 10 k2 (by omega) (by omega) (by omega) (by omega)
  have o5 := or_val (1 + p * 2 + d * 32 + k1 * 512 + k2 * 1024) (k3 * 2048) 11 k3 (by omega) (by omega) (by omega) (by omega)
  obtain ⟨v5, hv5⟩ : ∃ v, 1 + p * 2 + d * 32 + k1 * 512 + k2 * 1024 + k3 * 2048 = v := ⟨_, rfl⟩
  have hv : Hid (1 + 2 * p + 32 * d + 512 * k1 + 1024 * k2 + 2048 * k3 = v5) := Lib.hid (by omega)
  rw [hv5] at o5
  clear hv5
  generalize 1 + p * 2 + d * 32 + k1 * 512 + k2 * 1024 = v4 at *
  generalize 1 + p * 2 + d * 32 + k1 * 512 = v3 at *
  generalize 1 + p * 2 + d * 32 = v2 at *
  generalize 1 + p * 2 = v1 at *
  generalize p * 2 = u1 at *
  generalize d * 32 = u2 at *
  generalize k1 * 512 = u3 at *
  generalize k2 * 1024 = u4 at *
  generalize k3 * 2048 = u5 at *
  go_enter Try.func39, Try.ntmps39
  go_wp2_with fail
  refine (hR _).mono ?_
  rintro e x ⟨rfl, hb⟩
  obtain ⟨c0, c1, c2, c3, s1, l1, hB⟩ := keepSh (newSh w p d wk fn 32) hb
  clear hb
  go_wp2_with fail
  refine (lay_one_0_1 _).mono ?_
  rintro e x2 ⟨rfl, hb⟩
  obtain ⟨c0, c1, c2, c3, s1, l1, hB⟩ := keepSh ⟨c0, c1, c2, c3, s1, l1, hB⟩ hb
  clear hb
  go_wp2_with fail
  refine (L1 _).mono ?_
  rintro e x ⟨rfl, hb⟩
  obtain ⟨c0, c1, c2, c3, s1, l1, hB⟩ := keepSh ⟨c0, c1, c2, c3, s1, l1, hB⟩ hb
  clear hb
  go_wp2_with fail
  refine (L2 _).mono ?_
  rintro e x ⟨rfl, hb⟩
  obtain ⟨c0, c1, c2, c3, s1, l1, hB⟩ := keepSh ⟨c0, c1, c2, c3, s1, l1, hB⟩ hb
  clear hb
  go_wp2_with fail
  refine (F1 _).mono ?_
  rintro e x ⟨rfl, rfl⟩
  go_wp2_with fail
  refine (L3 _).mono ?_
  rintro e x ⟨rfl, hb⟩
  obtain ⟨c0, c1, c2, c3, s1, l1, hB⟩ := keepSh ⟨c0, c1, c2, c3, s1, l1, hB⟩ hb
  clear hb
  go_wp2_with fail
  refine (F2 _).mono ?_
  rintro e x ⟨rfl, rfl⟩
  go_wp2_with fail
  refine (L4 _).mono ?_
  rintro e x ⟨rfl, hb⟩
  obtain ⟨c0, c1, c2, c3, s1, l1, hB⟩ := keepSh ⟨c0, c1, c2, c3, s1, l1, hB⟩ hb
  clear hb
  go_wp2_with fail
  refine (F3 _).mono ?_
  rintro e x ⟨rfl, rfl⟩
  go_wp2_with fail
  refine (L5 _).mono ?_
  rintro e x ⟨rfl, hb⟩
  obtain ⟨c0, c1, c2, c3, s1, l1, hB⟩ := keepSh ⟨c0, c1, c2, c3, s1, l1, hB⟩ hb
  clear hb
  go_wp2
  go_ret2
  exact ⟨by rw [hv.out]; rfl, hB⟩

set_option maxRecDepth 100000 in
theorem head_no (p d : Int) (wk fn fr : Bool) (h : shB p d wk fn = false) (w : World) :
    Calls Try.prog 39 #[shV p d wk fn, .bool fr] w fun e w' => e = .returned (.tuple #[.int .u64 0, .bool false]) ∧ Below w.heap.size w w' := by
  have hR := right_sh p d wk fn
  rw [h] at hR
  clear h
  go_enter Try.func39, Try.ntmps39
  go_wp2_with fail
  refine (hR _).mono ?_
  rintro e x ⟨rfl, hb⟩
  obtain ⟨c0, c1, c2, c3, s1, l1, hB⟩ := keepSh (newSh w p d wk fn 32) hb
  clear hb
  go_wp2
  go_ret2
  exact ⟨rfl, hB⟩

/-- What Head tells of any shape. -/
def headV (p d : Int) (wk fn fr : Bool) : Nat := if shB p d wk fn then headN p.toNat d.toNat wk fn fr else 0
theorem sh_small {p d : Int} {wk fn : Bool} (h : shB p d wk fn = true) : 0 ≤ p ∧ p ≤ 8 ∧ 0 ≤ d ∧ d ≤ 8 := by
  unfold shB cnt at h
  cases wk <;> simp at h <;> omega
theorem head_any (p d : Int) (wk fn fr : Bool) (w : World) :
    Calls Try.prog 39 #[shV p d wk fn, .bool fr] w fun e w' => e = .returned (.tuple #[.int .u64 (headV p d wk fn fr : Nat), .bool (shB p d wk fn)]) ∧ Below w.heap.size w w' := by
  cases h : shB p d wk fn
  · have := head_no p d wk fn fr h w
    unfold headV
    rw [h]
    exact this
  · have hs := sh_small h
    obtain ⟨p', rfl⟩ : ∃ k : Nat, p = k := ⟨p.toNat, by omega⟩
    obtain ⟨d', rfl⟩ : ∃ k : Nat, d = k := ⟨d.toNat, by omega⟩
    have := head_yes p' d' wk fn fr h (by omega) (by omega) w
    unfold headV
    rw [h]
    exact this

/-- A block that was made behind w, and is known whole. -/
structure ResAt (w x : World) (k : Nat) (cs : Array Value) (ty : TypeId) : Prop where
  blk : BlkIs x k cs ty
  own : w.heap.size ≤ k
  below : Below w.heap.size w x
theorem ResAt.new (w : World) (cs : Array Value) (ty : TypeId) : ResAt w (w.alloc (.cells cs ty)) w.heap.size cs ty := ⟨BlkIs.new w cs ty, Nat.le_refl _, (Below.refl _ _).alloc (Nat.le_refl _) _⟩
theorem ResAt.keep {w x y : World} {k : Nat} {cs : Array Value} {ty : TypeId} (h : ResAt w x k cs ty) (hb : Below x.heap.size x y) : ResAt w y k cs ty :=
  ⟨h.blk.below hb h.blk.lt, h.own, h.below.trans (hb.mono (by have := h.blk.lt; have := h.own; omega))⟩
theorem ResAt.set {w x : World} {k : Nat} {cs : Array Value} {ty : TypeId} (h : ResAt w x k cs ty) (i : Nat) (u : Value) : ResAt w (x.setCell ⟨k, i, none⟩ u) k (cs.setIfInBounds i u) ty :=
  ⟨h.blk.set i u, h.own, h.below.setCell h.own u⟩
theorem ResAt.facts4 {w x : World} {k : Nat} {v0 v1 v2 v3 : Value} {ty : TypeId} (h : ResAt w x k #[v0, v1, v2, v3] ty) :
    (x.cell? ⟨k, 0, none⟩ = some v0 ∧ x.cell? ⟨k, 1, none⟩ = some v1 ∧ x.cell? ⟨k, 2, none⟩ = some v2 ∧ x.cell? ⟨k, 3, none⟩ = some v3) ∧
    x.frozen? ⟨k, 0, none⟩ = false ∧ x.frozen? ⟨k, 1, none⟩ = false ∧ x.frozen? ⟨k, 2, none⟩ = false ∧ x.frozen? ⟨k, 3, none⟩ = false ∧ k < x.heap.size :=
  ⟨⟨h.blk.cell 0, h.blk.cell 1, h.blk.cell 2, h.blk.cell 3⟩, h.blk.free 0, h.blk.free 1, h.blk.free 2, h.blk.free 3, h.blk.lt⟩

/-- What a word says of a shape. -/
def hp (a : Nat) : Nat := a / 2 % 16
def hd (a : Nat) : Nat := a / 32 % 16
def hw (a : Nat) : Bool := (((a / 512 % 2 : Nat) : Int) == 1)
def hf (a : Nat) : Bool := (((a / 1024 % 2 : Nat) : Int) == 1)
def hr (a : Nat) : Bool := (((a / 2048 % 2 : Nat) : Int) == 1)
/-- Whether it is a Head. -/
def isHead (a : Nat) : Bool := shB (hp a) (hd a) (hw a) (hf a) && decide (headV (hp a) (hd a) (hw a) (hf a) (hr a) = a)

set_option maxRecDepth 100000 in
set_option maxHeartbeats 2000000 in
theorem shape_any (a : Nat) (ha : a < 18446744073709551616) (w : World) :
    Calls Try.prog 55 #[.int .u64 a] w fun e w' => e = .returned (if isHead a then .tuple #[shV (hp a) (hd a) (hw a) (hf a), .bool (hr a), .bool true] else .tuple #[shV 0 0 false false, .bool false, .bool false]) ∧ Below w.heap.size w w' := by
  have R1 := read_1_5 a ha
  have R2 := read_5_9 a ha
  have R3 := read_9_10 a ha
  have R4 := read_10_11 a ha
  have R5 := read_11_12 a ha
  have HD := head_any (hp a) (hd a) (hw a) (hf a) (hr a)
  have E3 : (((a / 512 % 2 : Nat) : Int) == 1) = hw a := rfl
  have E4 : (((a / 1024 % 2 : Nat) : Int) == 1) = hf a := rfl
  have E5 : (((a / 2048 % 2 : Nat) : Int) == 1) = hr a := rfl
  have eR : isHead a = (shB (hp a) (hd a) (hw a) (hf a) && decide (headV (hp a) (hd a) (hw a) (hf a) (hr a) = a)) := rfl
  rw [eR]
  rw [show a / 2 % 16 = hp a from rfl] at R1
  rw [show a / 32 % 16 = hd a from rfl] at R2
  generalize a / 512 % 2 = q3 at *
  generalize a / 1024 % 2 = q4 at *
  generalize a / 2048 % 2 = q5 at *
  generalize hp a = p at *
  generalize hd a = d at *
  generalize hw a = b3 at *
  generalize hf a = b4 at *
  generalize hr a = b5 at *
  generalize shB (p : Int) (d : Int) b3 b4 = ok at *
  generalize headV (p : Int) (d : Int) b3 b4 b5 = v at *
  clear eR
  go_enter Try.func55, Try.ntmps55
  go_wp2_with fail
  have hT := ResAt.new w #[.int .i64 0, .int .i64 0, .bool false, .bool false] 32
  refine (R1 _).mono ?_
  rintro e x ⟨rfl, hb⟩
  replace hT := hT.keep hb
  clear hb
  obtain ⟨⟨c0, c1, c2, c3⟩, f0, f1, f2, f3, l1⟩ := hT.facts4
  go_wp2_with fail
  replace hT := hT.set 0 (.int .i64 p)
  clear c0 c1 c2 c3 f0 f1 f2 f3 l1
  refine (R2 _).mono ?_
  rintro e x ⟨rfl, hb⟩
  replace hT := hT.keep hb
  clear hb
  obtain ⟨⟨c0, c1, c2, c3⟩, f0, f1, f2, f3, l1⟩ := hT.facts4
  go_wp2_with fail
  replace hT := hT.set 1 (.int .i64 d)
  clear c0 c1 c2 c3 f0 f1 f2 f3 l1
  refine (R3 _).mono ?_
  rintro e x ⟨rfl, hb⟩
  replace hT := hT.keep hb
  clear hb
  obtain ⟨⟨c0, c1, c2, c3⟩, f0, f1, f2, f3, l1⟩ := hT.facts4
  go_wp2_with fail
  replace hT := hT.set 2 (.bool b3)
  clear c0 c1 c2 c3 f0 f1 f2 f3 l1
  refine (R4 _).mono ?_
  rintro e x ⟨rfl, hb⟩
  replace hT := hT.keep hb
  clear hb
  obtain ⟨⟨c0, c1, c2, c3⟩, f0, f1, f2, f3, l1⟩ := hT.facts4
  go_wp2_with fail
  replace hT := hT.set 3 (.bool b4)
  clear c0 c1 c2 c3 f0 f1 f2 f3 l1
  refine (R5 _).mono ?_
  rintro e x ⟨rfl, hb⟩
  replace hT := hT.keep hb
  clear hb
  obtain ⟨⟨c0, c1, c2, c3⟩, f0, f1, f2, f3, l1⟩ := hT.facts4
  go_wp2_with fail
  refine (HD _).mono ?_
  rintro e x ⟨rfl, hb⟩
  replace hT := hT.keep hb
  clear hb c0 c1 c2 c3 f0 f1 f2 f3 l1 E3 E4 E5 R1 R2 R3 R4 R5 HD
  obtain ⟨⟨c0, c1, c2, c3⟩, f0, f1, f2, f3, l1⟩ := hT.facts4
  cases ok
  · go_wp2
    have hE := (((hT.set 0 (.int .i64 0)).set 1 (.int .i64 0)).set 2 (.bool false)).set 3 (.bool false)
    obtain ⟨⟨e0, e1, e2, e3⟩, _⟩ := hE.facts4
    refine bodyPost_ret (v := .tuple #[shV 0 0 false false, .bool false, .bool false]) ?_ rfl ⟨rfl, hE.below⟩
    simp [results, Try.f55, go_sem, e0, e1, e2, e3]
  · by_cases hva : v = a
    · subst hva
      go_wp2
      have hE := (((hT.set 0 (.int .i64 p)).set 1 (.int .i64 d)).set 2 (.bool b3)).set 3 (.bool b4)
      obtain ⟨⟨e0, e1, e2, e3⟩, _⟩ := hE.facts4
      refine bodyPost_ret (v := .tuple #[shV p d b3 b4, .bool b5, .bool true]) ?_ rfl ⟨by simp, hE.below⟩
      simp [results, Try.f55, go_sem, e0, e1, e2, e3]
    · have n1 : ((v : Int) = (a : Int)) = False := by simp; omega
      go_wp2
      all_goals
        have hE := (((hT.set 0 (.int .i64 0)).set 1 (.int .i64 0)).set 2 (.bool false)).set 3 (.bool false)
        obtain ⟨⟨e0, e1, e2, e3⟩, _⟩ := hE.facts4
        refine bodyPost_ret (v := .tuple #[shV 0 0 false false, .bool false, .bool false]) ?_ rfl ⟨by simp [hva], hE.below⟩
        simp [results, Try.f55, go_sem, e0, e1, e2, e3]

end Go.Proofs.Ytoohnnkhklifdaa

namespace Go.Proofs.Ytoohnnkhklifdaa
open Go.ChangeShapes Go.WideShapes Go.ChangeAt Go.RowKit

set_option linter.unusedSimpArgs false
set_option linter.unusedVariables false

theorem free_any (n : Nat) (hn : n ≤ 1099511627776) (w : World) :
    Calls Try.prog 41 #[.int .i64 n] w fun e w' => e = .returned (.tuple #[.int .u64 (n * 2 : Nat), .bool true]) ∧ Below w.heap.size w w' := by
  have i1 : decide ((n : Int) < 0) = false := decide_eq_false (by omega)
  have i2 : decide ((1099511627776 : Int) < (n : Int)) = false := decide_eq_false (by omega)
  have hL := lay_1_64 n (by omega) (by omega)
  generalize n * 2 = u at *
  go_enter Try.func41, Try.ntmps41
  go_wp2_with fail
  refine (hL _).mono ?_
  rintro e y ⟨rfl, hb2⟩
  go_wp2
  go_ret2
  exact ⟨rfl, hb2⟩

end Go.Proofs.Ytoohnnkhklifdaa

namespace Go.Proofs.Ytoohnnkhklifdaa
open Go.ChangeShapes Go.WideShapes Go.ChangeAt Go.RowKit

/-- The number that is not below 0. -/
def zigOf (n : Int) : Int := if 0 ≤ n then 2 * n else -2 * n - 1
theorem zig_val (n : Int) (h0 : -9223372036854775808 ≤ n) (h1 : n ≤ 9223372036854775807) :
    bits .xor .u64 (IntKind.u64.wrap (IntKind.u64.wrap n * 2)) (IntKind.u64.wrap (n / 9223372036854775808)) = zigOf n := by
  simp only [IntKind.wrap_u64]
  unfold zigOf
  by_cases h : 0 ≤ n
  · rw [if_pos h, show n / 9223372036854775808 = 0 from by omega, show (n % 18446744073709551616 * 2) % 18446744073709551616 = 2 * n from by omega]
    obtain ⟨k, rfl⟩ : ∃ k : Nat, n = k := ⟨n.toNat, by omega⟩
    have := bits_xor_u64_nat (2 * k) 0 (by omega) (by omega)
    simpa using this
  · rw [if_neg h, show n / 9223372036854775808 = -1 from by omega, show ((-1 : Int) % 18446744073709551616) = ((2 ^ 64 - 1 : Nat) : Int) from by decide]
    obtain ⟨k, hk⟩ : ∃ k : Nat, (n % 18446744073709551616 * 2) % 18446744073709551616 = k := ⟨((n % 18446744073709551616 * 2) % 18446744073709551616).toNat, by omega⟩
    have hk2 : k < 2 ^ 64 := by omega
    rw [hk, bits_xor_u64_nat k (2 ^ 64 - 1) (by omega) (by omega)]
    have : k ^^^ (2 ^ 64 - 1) = 2 ^ 64 - 1 - k := by
      refine Nat.eq_of_testBit_eq fun i => ?_
      rw [Nat.testBit_xor, Nat.testBit_two_pow_sub_one, show 2 ^ 64 - 1 - k = 2 ^ 64 - (k + 1) from by omega, Nat.testBit_two_pow_sub_succ hk2]
      by_cases hi : i < 64
      · simp [hi]
      · rw [Wd.testBit_out (by omega) (by omega)]; simp [hi]
    rw [this]
    omega
def zagOf (a : Int) : Int := if a % 2 = 0 then a / 2 else -(a / 2) - 1
theorem zag_val (a : Int) (h0 : 0 ≤ a) (h1 : a ≤ 18446744073709551615) :
    bits .xor .i64 (a / 2) (wrap64 (-wrap64 (bits .and .u64 a 1))) = zagOf a := by
  obtain ⟨k, rfl⟩ : ∃ k : Nat, a = k := ⟨a.toNat, by omega⟩
  have e1 : bits .and .u64 (k : Int) 1 = ((k % 2 : Nat) : Int) := by
    have := u64_and_nat k 1 (by omega) (by omega)
    rw [Nat.and_one_is_mod] at this
    exact this
  rw [e1]
  unfold zagOf
  obtain ⟨q, hq⟩ : ∃ q : Nat, (k : Int) / 2 = q := ⟨k / 2, by omega⟩
  by_cases h : (k : Int) % 2 = 0
  · rw [if_pos h, show k % 2 = 0 from by omega, hq, show wrap64 (-wrap64 ((0 : Nat) : Int)) = 0 from by (simp only [wrap64]; decide)]
    have : bits .xor .i64 (q : Int) 0 = (q : Int) := by
      show IntKind.i64.wrap ((BitVec.ofInt 64 (q : Int) ^^^ BitVec.ofInt 64 0).toNat : Int) = _
      rw [show BitVec.ofInt 64 0 = 0#64 from by decide, BitVec.xor_zero, BitVec.ofInt_natCast, BitVec.toNat_ofNat, IntKind.wrap_i64]
      omega
    exact this
  · rw [if_neg h, show k % 2 = 1 from by omega, hq, show wrap64 (-wrap64 ((1 : Nat) : Int)) = -1 from by (simp only [wrap64]; decide)]
    have : bits .xor .i64 (q : Int) (-1) = -(q : Int) - 1 := by
      show IntKind.i64.wrap ((BitVec.ofInt 64 (q : Int) ^^^ BitVec.ofInt 64 (-1)).toNat : Int) = _
      rw [show BitVec.ofInt 64 (-1) = BitVec.allOnes 64 from by decide, BitVec.xor_allOnes, BitVec.ofInt_natCast, BitVec.toNat_not, BitVec.toNat_ofNat, IntKind.wrap_i64]
      omega
    exact this

end Go.Proofs.Ytoohnnkhklifdaa

namespace Go.Proofs.Ytoohnnkhklifdaa
open Go.ChangeShapes Go.WideShapes Go.ChangeAt Go.RowKit

set_option linter.unusedSimpArgs false
set_option linter.unusedVariables false

/-- At place a of l there is an object. -/
structure ObjIs (l : List Int) (a p d : Nat) (wk fn fr : Bool) : Prop where
  right : shB p d wk fn = true
  ptrs : p ≤ 8
  data : d ≤ 8
  room : a + (3 + p + d) ≤ l.length
  head : l.getD a 0 = (headN p d wk fn fr : Nat)

theorem headN_lt {p d : Nat} {wk fn fr : Bool} (hp : p ≤ 8) (hd : d ≤ 8) : headN p d wk fn fr < 4096 := by
  unfold headN
  have b : ∀ b : Bool, b.toNat < 2 := by decide
  have h1 := b wk; have h2 := b fn; have h3 := b fr
  omega
theorem bool_of_nat (b : Bool) : ((b.toNat : Int) == 1) = b := by cases b <;> rfl
theorem headN_read {p d : Nat} {wk fn fr : Bool} (h1 : p ≤ 8) (h2 : d ≤ 8) :
    hp (headN p d wk fn fr) = p ∧ hd (headN p d wk fn fr) = d ∧ hw (headN p d wk fn fr) = wk ∧ hf (headN p d wk fn fr) = fn ∧ hr (headN p d wk fn fr) = fr := by
  have b : ∀ b : Bool, b.toNat < 2 := by decide
  have b1 := b wk; have b2 := b fn; have b3 := b fr
  unfold hp hd hw hf hr headN
  refine ⟨by omega, by omega, ?_, ?_, ?_⟩
  · rw [show (1 + 2 * p + 32 * d + 512 * wk.toNat + 1024 * fn.toNat + 2048 * fr.toNat) / 512 % 2 = wk.toNat from by omega]; exact bool_of_nat wk
  · rw [show (1 + 2 * p + 32 * d + 512 * wk.toNat + 1024 * fn.toNat + 2048 * fr.toNat) / 1024 % 2 = fn.toNat from by omega]; exact bool_of_nat fn
  · rw [show (1 + 2 * p + 32 * d + 512 * wk.toNat + 1024 * fn.toNat + 2048 * fr.toNat) / 2048 % 2 = fr.toNat from by omega]; exact bool_of_nat fr
theorem headN_is {p d : Nat} {wk fn fr : Bool} (h : shB p d wk fn = true) (h1 : p ≤ 8) (h2 : d ≤ 8) : isHead (headN p d wk fn fr) = true := by
  obtain ⟨e1, e2, e3, e4, e5⟩ := headN_read (wk := wk) (fn := fn) (fr := fr) h1 h2
  unfold isHead headV
  rw [e1, e2, e3, e4, e5, h]
  simp
/-- What header's Shape tells of an object's head. -/
theorem shape_head {p d : Nat} {wk fn fr : Bool} (h : shB p d wk fn = true) (h1 : p ≤ 8) (h2 : d ≤ 8) (w : World) :
    Calls Try.prog 55 #[.int .u64 (headN p d wk fn fr : Nat)] w fun e w' => e = .returned (.tuple #[shV p d wk fn, .bool fr, .bool true]) ∧ Below w.heap.size w w' := by
  have hl := headN_lt (wk := wk) (fn := fn) (fr := fr) h1 h2
  have := shape_any (headN p d wk fn fr) (by omega) w
  rw [headN_is h h1 h2, if_pos rfl] at this
  obtain ⟨e1, e2, e3, e4, e5⟩ := headN_read (wk := wk) (fn := fn) (fr := fr) h1 h2
  rw [e1, e2, e3, e4, e5] at this
  exact this

theorem load_in' {l : List Int} {m : Nat} (h : m < l.length) : loadV l m = l.getD m 0 ∧ errV l.length m 1 = 0 := by
  have hf : fitsB l.length m 1 = true := fitsB_of (by omega) (by omega) (by omega)
  unfold loadV errV
  rw [hf]
  exact ⟨rfl, rfl⟩
theorem store_in' {l : List Int} {m : Nat} (x : Int) (h : m < l.length) : fillV l m 1 x = l.set m x ∧ errV l.length m 1 = 0 := by
  have hf : fitsB l.length m 1 = true := fitsB_of (by omega) (by omega) (by omega)
  unfold fillV errV
  rw [hf]
  exact ⟨rfl, rfl⟩
theorem set_at' {l : List Int} {m j : Nat} {x : Int} (h : j < l.length) : (l.set m x).getD j 0 = if j = m then x else l.getD j 0 := by
  rw [List.getD_eq_getElem?_getD, List.getElem?_set]
  by_cases e : m = j
  · subst e; simp [h]
  · rw [if_neg e, if_neg (Ne.symm e), List.getD_eq_getElem?_getD]

section
variable {P b : Nat} {l : List Int} {p d : Nat} {wk fn fr : Bool}

/-- A word that is there, loaded. -/
theorem load_there (m : Nat) (w : World) (h : ArenaAt 76 w P b l) (hm : m < l.length) :
    Calls Try.prog 54 #[.pointer (some ⟨P, 0, none⟩), .int .i64 m] w fun e w' => e = .returned (.tuple #[.int .u64 (l.getD m 0), .int .i64 0]) ∧ w = w' := by
  have hl := h.len
  have := load_any (m : Int) w h (by omega) (by omega)
  rw [(load_in' hm).1, (load_in' hm).2] at this
  exact this
theorem store_there (m : Nat) (x : Int) (w : World) (h : ArenaAt 76 w P b l) (hm : m < l.length) (hx : 0 ≤ x ∧ x ≤ 18446744073709551615) :
    Calls Try.prog 42 #[.pointer (some ⟨P, 0, none⟩), .int .i64 m, .int .u64 x] w fun e w' => e = .returned (.int .i64 0) ∧ ArenaAt 76 w' P b (l.set m x) ∧ Chg (· = b) w w' := by
  have hl := h.len
  have := store_any (m : Int) x w h (by omega) (by omega) hx
  rw [(store_in' x hm).1, (store_in' x hm).2] at this
  exact this

set_option maxHeartbeats 1000000 in
theorem shape_at (a : Nat) (w : World) (h : ArenaAt 76 w P b l) (o : ObjIs l a p d wk fn fr) :
    Calls Try.prog 32 #[.pointer (some ⟨P, 0, none⟩), .int .i64 a] w fun e w' => e = .returned (.tuple #[shV p d wk fn, .bool fr, .int .i64 0]) ∧ Below w.heap.size w w' := by
  obtain ⟨o1, o2, o3, o4, o5⟩ := o
  have hl := h.len
  have hlt := h.lt
  have HL := load_there a _ (h.below ((Below.refl _ w).alloc (Nat.le_refl _) (.cells #[.int .i64 0, .int .i64 0, .bool false, .bool false] 32)) hlt.1 hlt.2) (by omega)
  rw [o5] at HL
  have HS := shape_head (fr := fr) o1 o2 o3
  have HZ := size_yes p d wk fn o1 o2 o3
  generalize headN p d wk fn fr = v at *
  have i1 : IntKind.i64.wrap ((l.length : Int) - (a : Int)) = (l.length : Int) - (a : Int) := IntWalk.i64_in _ (by omega)
  have i2 : decide ((l.length : Int) - (a : Int) < 3 + (p : Int) + (d : Int)) = false := decide_eq_false (by omega)
  have hT := ResAt.new w #[.int .i64 0, .int .i64 0, .bool false, .bool false] 32
  go_enter Try.func32, Try.ntmps32
  go_wp2_with fail
  refine HL.mono ?_
  rintro e x ⟨rfl, rfl⟩
  go_wp2_with fail
  refine (HS _).mono ?_
  rintro e x ⟨rfl, hb⟩
  replace hT := hT.keep hb
  clear hb
  obtain ⟨⟨c0, c1, c2, c3⟩, f0, f1, f2, f3, l1⟩ := hT.facts4
  go_wp2_with fail
  replace hT := (((hT.set 0 (.int .i64 p)).set 1 (.int .i64 d)).set 2 (.bool wk)).set 3 (.bool fn)
  clear c0 c1 c2 c3 f0 f1 f2 f3 l1
  refine (HZ _).mono ?_
  rintro e y ⟨rfl, hb⟩
  replace hT := hT.keep hb
  clear hb HL HS HZ
  have HE := len_any _ (h.below hT.below hlt.1 hlt.2)
  obtain ⟨⟨c0, c1, c2, c3⟩, f0, f1, f2, f3, l1⟩ := hT.facts4
  go_wp2_with fail
  refine HE.mono ?_
  rintro e y ⟨rfl, rfl⟩
  clear HE
  go_wp2
  replace hT := (((hT.set 0 (.int .i64 p)).set 1 (.int .i64 d)).set 2 (.bool wk)).set 3 (.bool fn)
  obtain ⟨⟨e0, e1, e2, e3⟩, _⟩ := hT.facts4
  refine bodyPost_ret (v := .tuple #[shV p d wk fn, .bool fr, .int .i64 0]) ?_ rfl ⟨rfl, hT.below⟩
  simp [results, Try.f32, go_sem, e0, e1, e2, e3]

/-- What a picked word is: so a closure tells, behind w. -/
def Picks (k q : Nat) (p d : Nat) (wk fn : Bool) (n : Nat) (ok : Bool) (w : World) : Prop :=
  (k = 66 ∨ k = 79 ∨ k = 79) ∧
  ∀ x, Below w.heap.size w x → Calls Try.prog k #[shV p d wk fn, .pointer (some ⟨q, 0, none⟩)] x fun e y => ∃ z : Int, e = .returned (.tuple #[.int .i64 z, .bool ok]) ∧ (ok = true → z = n) ∧ Below x.heap.size x y
theorem Picks.later {k q n : Nat} {ok : Bool} {w x : World} (h : Picks k q p d wk fn n ok w) (hb : Below w.heap.size w x) : Picks k q p d wk fn n ok x :=
  ⟨h.1, fun y hy => h.2 y (hb.trans (hy.mono hb.size))⟩

set_option maxHeartbeats 1000000 in
theorem find_yes (a n k q : Nat) (w : World) (h : ArenaAt 76 w P b l) (o : ObjIs l a p d wk fn fr) (hk : Picks k q p d wk fn n true w) (hn : n < 3 + p + d) :
    Calls Try.prog 65 #[.pointer (some ⟨P, 0, none⟩), .int .i64 a, .func (.func k) #[] #[.pointer (some ⟨q, 0, none⟩)]] w fun e w' => e = .returned (.tuple #[.int .i64 (a + n : Nat), .int .i64 0]) ∧ Below w.heap.size w w' := by
  have HS := shape_at a w h o
  have hl := h.len
  have hr := o.room
  have i1 : IntKind.i64.wrap ((a : Int) + (n : Int)) = ((a + n : Nat) : Int) := by rw [IntWalk.i64_in _ (by omega)]; omega
  obtain ⟨hk, hK⟩ := hk
  clear h o
  rcases hk with rfl | rfl | rfl
  all_goals
    go_enter Try.func65, Try.ntmps65
    go_wp2_with fail
    refine HS.mono ?_
    rintro e x ⟨rfl, hb⟩
    go_wp2_with fail
    have hB := hb.alloc hb.size (.cells #[.int .i64 p, .int .i64 d, .bool wk, .bool fn] 32)
    refine (hK _ hB).mono ?_
    rintro e y ⟨z, rfl, hz, hb2⟩
    obtain rfl := hz (by trivial)
    go_wp2
    go_ret2
    exact ⟨rfl, hB.trans (hb2.mono hB.size)⟩

set_option maxHeartbeats 1000000 in
theorem find_no (a k q z : Nat) (w : World) (h : ArenaAt 76 w P b l) (o : ObjIs l a p d wk fn fr) (hk : Picks k q p d wk fn z false w) :
    Calls Try.prog 65 #[.pointer (some ⟨P, 0, none⟩), .int .i64 a, .func (.func k) #[] #[.pointer (some ⟨q, 0, none⟩)]] w fun e w' => e = .returned (.tuple #[.int .i64 0, .int .i64 71]) ∧ Below w.heap.size w w' := by
  have HS := shape_at a w h o
  obtain ⟨hk, hK⟩ := hk
  clear h o
  rcases hk with rfl | rfl | rfl
  all_goals
    go_enter Try.func65, Try.ntmps65
    go_wp2_with fail
    refine HS.mono ?_
    rintro e x ⟨rfl, hb⟩
    go_wp2_with fail
    have hB := hb.alloc hb.size (.cells #[.int .i64 p, .int .i64 d, .bool wk, .bool fn] 32)
    refine (hK _ hB).mono ?_
    rintro e y ⟨z, rfl, -, hb2⟩
    go_wp2
    go_ret2
    exact ⟨rfl, hB.trans (hb2.mono hB.size)⟩

theorem obj_load (a n k q : Nat) (w : World) (h : ArenaAt 76 w P b l) (o : ObjIs l a p d wk fn fr) (hk : Picks k q p d wk fn n true w) (hn : n < 3 + p + d) :
    Calls Try.prog 43 #[.pointer (some ⟨P, 0, none⟩), .int .i64 a, .func (.func k) #[] #[.pointer (some ⟨q, 0, none⟩)]] w fun e w' => e = .returned (.tuple #[.int .u64 (l.getD (a + n) 0), .int .i64 0]) ∧ Below w.heap.size w w' := by
  have HF := find_yes a n k q w h o hk hn
  have hlt := h.lt
  have HL := fun x (hb : Below w.heap.size w x) => load_there (a + n) x (h.below hb hlt.1 hlt.2) (by have := o.room; omega)
  generalize l.getD (a + n) 0 = v at *
  clear h o hk
  go_enter Try.func43, Try.ntmps43
  go_wp2_with fail
  refine HF.mono ?_
  rintro e x ⟨rfl, hb⟩
  go_wp2_with fail
  refine (HL x hb).mono ?_
  rintro e x ⟨rfl, rfl⟩
  go_wp2
  go_ret2
  exact ⟨rfl, hb⟩

theorem obj_load_no (a k q z : Nat) (w : World) (h : ArenaAt 76 w P b l) (o : ObjIs l a p d wk fn fr) (hk : Picks k q p d wk fn z false w) :
    Calls Try.prog 43 #[.pointer (some ⟨P, 0, none⟩), .int .i64 a, .func (.func k) #[] #[.pointer (some ⟨q, 0, none⟩)]] w fun e w' => e = .returned (.tuple #[.int .u64 0, .int .i64 71]) ∧ Below w.heap.size w w' := by
  have HF := find_no a k q z w h o hk
  clear h o hk
  go_enter Try.func43, Try.ntmps43
  go_wp2_with fail
  refine HF.mono ?_
  rintro e x ⟨rfl, hb⟩
  go_wp2
  go_ret2
  exact ⟨rfl, hb⟩

/-- What a word is made: so a closure tells, behind w. -/
def Makes (k q : Nat) (u v : Int) (w : World) : Prop :=
  (k = 72 ∨ k = 72 ∨ k = 72) ∧
  ∀ x, Below w.heap.size w x → Calls Try.prog k #[.int .u64 u, .pointer (some ⟨q, 0, none⟩)] x fun e y => e = .returned (.tuple #[.int .u64 v, .int .i64 0]) ∧ Below x.heap.size x y
theorem Makes.later {k q : Nat} {u v : Int} {w x : World} (h : Makes k q u v w) (hb : Below w.heap.size w x) : Makes k q u v x :=
  ⟨h.1, fun y hy => h.2 y (hb.trans (hy.mono hb.size))⟩

set_option maxHeartbeats 1000000 in
theorem change_yes (a n k q m r : Nat) (v : Int) (w : World) (h : ArenaAt 76 w P b l) (o : ObjIs l a p d wk fn fr) (hk : Picks k q p d wk fn n true w) (hn : n < 3 + p + d) (hm : Makes m r (l.getD (a + n) 0) v w) (hv : 0 ≤ v ∧ v ≤ 18446744073709551615) :
    Calls Try.prog 71 #[.pointer (some ⟨P, 0, none⟩), .int .i64 a, .func (.func k) #[] #[.pointer (some ⟨q, 0, none⟩)], .func (.func m) #[] #[.pointer (some ⟨r, 0, none⟩)]] w fun e w' => e = .returned (.int .i64 0) ∧ ArenaAt 76 w' P b (l.set (a + n) v) ∧ Chg (· = b) w w' := by
  have HF := find_yes a n k q w h o hk hn
  have hlt := h.lt
  have hin : a + n < l.length := by have := o.room; omega
  have HL := fun x (hb : Below w.heap.size w x) => load_there (a + n) x (h.below hb hlt.1 hlt.2) hin
  have HS := fun x (hb : Below w.heap.size w x) => store_there (a + n) v x (h.below hb hlt.1 hlt.2) hin hv
  obtain ⟨hm, hM⟩ := hm
  generalize l.getD (a + n) 0 = u at *
  clear h o hk hn hv
  rcases hm with rfl | rfl | rfl
  all_goals
    go_enter Try.func71, Try.ntmps71
    go_wp2_with fail
    refine HF.mono ?_
    rintro e x ⟨rfl, hb⟩
    go_wp2_with fail
    refine (HL x hb).mono ?_
    rintro e x ⟨rfl, rfl⟩
    go_wp2_with fail
    refine (hM _ hb).mono ?_
    rintro e y ⟨rfl, hb2⟩
    replace hb2 := hb.trans (hb2.mono hb.size)
    go_wp2_with fail
    refine (HS _ hb2).mono ?_
    rintro e z ⟨rfl, ha, hc⟩
    go_wp2
    go_ret
    exact ⟨rfl, ha, (Chg.of_below hb2 (Nat.le_refl _)).trans hc⟩

theorem change_no (a k q m r z : Nat) (w : World) (h : ArenaAt 76 w P b l) (o : ObjIs l a p d wk fn fr) (hk : Picks k q p d wk fn z false w) :
    Calls Try.prog 71 #[.pointer (some ⟨P, 0, none⟩), .int .i64 a, .func (.func k) #[] #[.pointer (some ⟨q, 0, none⟩)], .func (.func m) #[] #[.pointer (some ⟨r, 0, none⟩)]] w fun e w' => e = .returned (.int .i64 71) ∧ Below w.heap.size w w' := by
  have HF := find_no a k q z w h o hk
  clear h o hk
  go_enter Try.func71, Try.ntmps71
  go_wp2_with fail
  refine HF.mono ?_
  rintro e x ⟨rfl, hb⟩
  go_wp2
  go_ret
  exact ⟨rfl, hb⟩

end

/-! ### The closures -/
theorem drewN_below {B : Nat} {a w : World} (h : Below B a w) (n : Nat) : Below B a (w.drewN n) := ⟨h.os, h.tape, h.output, h.size, h.block⟩
section
variable (p d : Nat) (wk fn : Bool) (q : Nat) (x : World)
theorem ahead_in (n : Int) (hc : x.cell? ⟨q, 0, none⟩ = some (.int .i64 n)) (hq : q < x.heap.size) :
    Calls Try.prog 66 #[shV p d wk fn, .pointer (some ⟨q, 0, none⟩)] x fun e y => e = .returned (.tuple #[.int .i64 n, .bool true]) ∧ Below x.heap.size x y := by
  go_enter Try.func66, Try.ntmps66
  go_wp2
  go_ret2
  exact ⟨rfl, (Below.refl _ x).alloc (Nat.le_refl _) _⟩
theorem ptr_in (i : Int) (i0 : -9223372036854775808 ≤ i) (i1 : i ≤ 9223372036854775807) (hp : p ≤ 8) (hc : x.cell? ⟨q, 0, none⟩ = some (.int .i64 i)) (hq : q < x.heap.size) :
    Calls Try.prog 79 #[shV p d wk fn, .pointer (some ⟨q, 0, none⟩)] x fun e y => ∃ z : Int, e = .returned (.tuple #[.int .i64 z, .bool (decide (0 ≤ i ∧ i < p))]) ∧ (decide (0 ≤ i ∧ i < p) = true → z = (3 + i.toNat : Nat)) ∧ Below x.heap.size x y := by
  by_cases h1 : 0 ≤ i
  · have g1 : decide (0 ≤ i) = true := decide_eq_true h1
    by_cases h2 : i < p
    · have g2 : decide (i < (p : Int)) = true := decide_eq_true h2
      have g3 : IntKind.i64.wrap (3 + i) = 3 + i := IntWalk.i64_in _ (by omega)
      rw [decide_eq_true (show 0 ≤ i ∧ i < p from ⟨h1, h2⟩)]
      go_enter Try.func79, Try.ntmps79
      go_wp2
      go_quiet (fail)
      go_wp2
      go_ret2
      exact ⟨_, rfl, fun _ => by omega, drewN_below ((Below.refl _ x).alloc (Nat.le_refl _) _) _⟩
    · have g2 : decide (i < (p : Int)) = false := decide_eq_false h2
      rw [decide_eq_false (show ¬ (0 ≤ i ∧ i < p) from fun h => h2 h.2)]
      go_enter Try.func79, Try.ntmps79
      go_wp2
      go_quiet (fail)
      go_wp2
      go_ret2
      exact ⟨_, rfl, by simp, drewN_below ((Below.refl _ x).alloc (Nat.le_refl _) _) _⟩
  · have g1 : decide (0 ≤ i) = false := decide_eq_false h1
    rw [decide_eq_false (show ¬ (0 ≤ i ∧ i < p) from fun h => h1 h.1)]
    go_enter Try.func79, Try.ntmps79
    go_wp2
    go_quiet (fail)
    go_wp2
    go_ret2
    exact ⟨_, rfl, by simp, drewN_below ((Below.refl _ x).alloc (Nat.le_refl _) _) _⟩
theorem setPtr_in (u : Int) (v : Nat) (hv : v ≤ 131072) (hc : x.cell? ⟨q, 0, none⟩ = some (.int .i64 v)) (hq : q < x.heap.size) :
    Calls Try.prog 72 #[.int .u64 u, .pointer (some ⟨q, 0, none⟩)] x fun e y => e = .returned (.tuple #[.int .u64 v, .int .i64 0]) ∧ Below x.heap.size x y := by
  have g1 : decide ((v : Int) < 0) = false := decide_eq_false (by omega)
  have g2 : decide ((131072 : Int) < (v : Int)) = false := decide_eq_false (by omega)
  have g3 : IntKind.u64.wrap (v : Int) = (v : Int) := by rw [IntKind.wrap_u64]; omega
  go_enter Try.func72, Try.ntmps72
  go_wp2
  go_ret2
  exact ⟨rfl, Below.refl _ x⟩
end

end Go.Proofs.Ytoohnnkhklifdaa

namespace Go.Proofs.Ytoohnnkhklifdaa
open Go.ChangeShapes Go.WideShapes Go.ChangeAt Go.RowKit

set_option linter.unusedSimpArgs false
set_option linter.unusedVariables false

/-! ### What makes the closures -/
theorem ahead_any (n : Int) (w : World) : Calls Try.prog 44 #[.int .i64 n] w fun e w' => ∃ q, e = .returned (.func (.func 66) #[] #[.pointer (some ⟨q, 0, none⟩)]) ∧ w'.cell? ⟨q, 0, none⟩ = some (.int .i64 n) ∧ q < w'.heap.size ∧ Below w.heap.size w w' := by
  go_enter Try.func44, Try.ntmps44
  go_wp2
  go_ret
  exact ⟨_, rfl, by simp, by simp, (Below.refl _ w).alloc (Nat.le_refl _) _⟩
theorem ptr_any (n : Int) (w : World) : Calls Try.prog 70 #[.int .i64 n] w fun e w' => ∃ q, e = .returned (.func (.func 79) #[] #[.pointer (some ⟨q, 0, none⟩)]) ∧ w'.cell? ⟨q, 0, none⟩ = some (.int .i64 n) ∧ q < w'.heap.size ∧ Below w.heap.size w w' := by
  go_enter Try.func70, Try.ntmps70
  go_wp2
  go_ret
  exact ⟨_, rfl, by simp, by simp, (Below.refl _ w).alloc (Nat.le_refl _) _⟩

section
variable {p d : Nat} {wk fn : Bool} {q : Nat} {x : World}
theorem ahead_picks (p d : Nat) (wk fn : Bool) (n : Nat) (hc : x.cell? ⟨q, 0, none⟩ = some (.int .i64 n)) (hq : q < x.heap.size) : Picks 66 q p d wk fn n true x :=
  ⟨.inl rfl, fun y hy => (ahead_in p d wk fn q y n ((hy.cell (p := ⟨q, 0, none⟩) hq).trans hc) (Nat.lt_of_lt_of_le hq hy.size)).mono fun e z ⟨h, hb⟩ => ⟨_, h, fun _ => rfl, hb⟩⟩
theorem ptr_picks (i : Int) (i0 : -9223372036854775808 ≤ i) (i1 : i ≤ 9223372036854775807) (wk fn : Bool) (hp : p ≤ 8) (hd : d ≤ 8) (hc : x.cell? ⟨q, 0, none⟩ = some (.int .i64 i)) (hq : q < x.heap.size) :
    Picks 79 q p d wk fn (3 + i.toNat) (decide (0 ≤ i ∧ i < p)) x :=
  ⟨.inr (.inl rfl), fun y hy => ptr_in p d wk fn q y i i0 i1 hp ((hy.cell (p := ⟨q, 0, none⟩) hq).trans hc) (Nat.lt_of_lt_of_le hq hy.size)⟩
theorem setPtr_makes (u : Int) (v : Nat) (hv : v ≤ 131072) (hc : x.cell? ⟨q, 0, none⟩ = some (.int .i64 v)) (hq : q < x.heap.size) : Makes 72 q u v x :=
  ⟨.inl rfl, fun y hy => setPtr_in q y u v hv ((hy.cell (p := ⟨q, 0, none⟩) hq).trans hc) (Nat.lt_of_lt_of_le hq hy.size)⟩
end

theorem zigOf_bounds {n : Int} (h0 : -9223372036854775808 ≤ n) (h1 : n ≤ 9223372036854775807) : 0 ≤ zigOf n ∧ zigOf n ≤ 18446744073709551615 := by
  unfold zigOf; split <;> omega
theorem zag_zigOf (n : Int) : zagOf (zigOf n) = n := by
  unfold zigOf
  split
  · unfold zagOf; split <;> omega
  · unfold zagOf; split <;> omega

section
variable {P b : Nat} {l : List Int} {p d : Nat} {wk fn fr : Bool}

/-! ### What is told -/

theorem serial_at (a : Nat) (w : World) (h : ArenaAt 76 w P b l) (o : ObjIs l a p d wk fn fr) (hs : 0 ≤ l.getD (a + 2) 0 ∧ l.getD (a + 2) 0 ≤ 9223372036854775807) :
    Calls Try.prog 23 #[.pointer (some ⟨P, 0, none⟩), .int .i64 a] w fun e w' => e = .returned (.tuple #[.int .i64 (l.getD (a + 2) 0), .int .i64 0]) ∧ Below w.heap.size w w' := by
  have hlt := h.lt
  obtain ⟨v, hX⟩ : ∃ x, l.getD (a + 2) 0 = x := ⟨_, rfl⟩
  rw [hX] at hs ⊢
  have g : IntKind.i64.wrap v = v := IntWalk.i64_in _ (by omega)
  go_enter Try.func23, Try.ntmps23
  go_wp2_with fail
  refine (ahead_any 2 _).mono ?_
  rintro e x ⟨q, rfl, hc, hq, hb⟩
  have HL := obj_load a 2 _ q x (h.below hb hlt.1 hlt.2) o (ahead_picks p d wk fn 2 hc hq) (by omega)
  rw [hX] at HL
  clear hX
  clear h o hc
  go_wp2_with fail
  refine HL.mono ?_
  rintro e y ⟨rfl, hb2⟩
  go_wp2
  go_ret2
  exact ⟨rfl, hb.trans (hb2.mono hb.size)⟩

theorem ptr_at (a i : Nat) (w : World) (h : ArenaAt 76 w P b l) (o : ObjIs l a p d wk fn fr) (hi : i < p) (hs : 0 ≤ l.getD (a + (3 + i)) 0 ∧ l.getD (a + (3 + i)) 0 ≤ 9223372036854775807) :
    Calls Try.prog 51 #[.pointer (some ⟨P, 0, none⟩), .int .i64 a, .int .i64 i] w fun e w' => e = .returned (.tuple #[.int .i64 (l.getD (a + (3 + i)) 0), .int .i64 0]) ∧ Below w.heap.size w w' := by
  have hlt := h.lt
  obtain ⟨v, hX⟩ : ∃ x, l.getD (a + (3 + i)) 0 = x := ⟨_, rfl⟩
  rw [hX] at hs ⊢
  have g : IntKind.i64.wrap v = v := IntWalk.i64_in _ (by omega)
  go_enter Try.func51, Try.ntmps51
  go_wp2_with fail
  refine (ptr_any i _).mono ?_
  rintro e x ⟨q, rfl, hc, hq, hb⟩
  have hk := ptr_picks (i : Int) (by have := o.ptrs; omega) (by have := o.ptrs; omega) wk fn o.ptrs o.data hc hq
  rw [decide_eq_true (by omega : 0 ≤ (i : Int) ∧ (i : Int) < p), Int.toNat_natCast] at hk
  have HL := obj_load a (3 + i) _ q x (h.below hb hlt.1 hlt.2) o hk (by omega)
  rw [hX] at HL
  clear hX
  clear h o hc hk
  go_wp2_with fail
  refine HL.mono ?_
  rintro e y ⟨rfl, hb2⟩
  go_wp2
  go_ret2
  exact ⟨rfl, hb.trans (hb2.mono hb.size)⟩

theorem ptr_no (a : Nat) (i : Int) (w : World) (h : ArenaAt 76 w P b l) (o : ObjIs l a p d wk fn fr) (i0 : -9223372036854775808 ≤ i) (i1 : i ≤ 9223372036854775807) (hi : ¬ (0 ≤ i ∧ i < p)) :
    Calls Try.prog 51 #[.pointer (some ⟨P, 0, none⟩), .int .i64 a, .int .i64 i] w fun e w' => e = .returned (.tuple #[.int .i64 0, .int .i64 71]) ∧ Below w.heap.size w w' := by
  have hlt := h.lt
  go_enter Try.func51, Try.ntmps51
  go_wp2_with fail
  refine (ptr_any i _).mono ?_
  rintro e x ⟨q, rfl, hc, hq, hb⟩
  have hk := ptr_picks i i0 i1 wk fn o.ptrs o.data hc hq
  rw [decide_eq_false hi] at hk
  have HL := obj_load_no a _ q _ x (h.below hb hlt.1 hlt.2) o hk
  clear h o hc hk
  go_wp2_with fail
  refine HL.mono ?_
  rintro e y ⟨rfl, hb2⟩
  go_wp2
  go_ret2
  exact ⟨rfl, hb.trans (hb2.mono hb.size)⟩



/-! ### What is set -/
theorem setPtr_at (a i v : Nat) (w : World) (h : ArenaAt 76 w P b l) (o : ObjIs l a p d wk fn fr) (hi : i < p) (hv : v ≤ 131072) :
    Calls Try.prog 53 #[.pointer (some ⟨P, 0, none⟩), .int .i64 a, .int .i64 i, .int .i64 v] w fun e w' => e = .returned (.int .i64 0) ∧ ArenaAt 76 w' P b (l.set (a + (3 + i)) v) ∧ Chg (· = b) w w' := by
  have hlt := h.lt
  obtain ⟨l', hX⟩ : ∃ x, l.set (a + (3 + i)) (v : Int) = x := ⟨_, rfl⟩
  rw [hX]
  go_enter Try.func53, Try.ntmps53
  go_wp2_with fail
  have hV : (w.alloc (.cells #[.int .i64 v] 3)).cell? ⟨w.heap.size, 0, none⟩ = some (.int .i64 v) := by simp
  have hB := (Below.refl _ w).alloc (Nat.le_refl _) (.cells #[.int .i64 v] 3)
  have hQ : w.heap.size < (w.alloc (.cells #[.int .i64 v] 3)).heap.size := by simp
  refine (ptr_any i _).mono ?_
  rintro e x ⟨q, rfl, hc, hq, hb⟩
  replace hV := (hb.cell (p := ⟨_, 0, none⟩) hQ).trans hV
  replace hQ := Nat.lt_of_lt_of_le hQ hb.size
  replace hB := hB.trans (hb.mono hB.size)
  have hk := ptr_picks (i : Int) (by have := o.ptrs; omega) (by have := o.ptrs; omega) wk fn o.ptrs o.data hc hq
  rw [decide_eq_true (by omega : 0 ≤ (i : Int) ∧ (i : Int) < p), Int.toNat_natCast] at hk
  have HL := change_yes a (3 + i) _ q _ _ v x (h.below hB hlt.1 hlt.2) o hk (by omega) (setPtr_makes _ v hv hV hQ) (by omega)
  rw [hX] at HL
  clear hX
  clear h o hc hk hV hb
  go_wp2_with fail
  refine HL.mono ?_
  rintro e y ⟨rfl, ha, hc⟩
  go_wp2
  go_ret
  exact ⟨rfl, ha, (Chg.of_below hB (Nat.le_refl _)).trans hc⟩

theorem setPtr_no (a : Nat) (i v : Int) (w : World) (h : ArenaAt 76 w P b l) (o : ObjIs l a p d wk fn fr) (i0 : -9223372036854775808 ≤ i) (i1 : i ≤ 9223372036854775807) (hi : ¬ (0 ≤ i ∧ i < p)) :
    Calls Try.prog 53 #[.pointer (some ⟨P, 0, none⟩), .int .i64 a, .int .i64 i, .int .i64 v] w fun e w' => e = .returned (.int .i64 71) ∧ Below w.heap.size w w' := by
  have hlt := h.lt
  go_enter Try.func53, Try.ntmps53
  go_wp2_with fail
  have hB := (Below.refl _ w).alloc (Nat.le_refl _) (.cells #[.int .i64 v] 3)
  refine (ptr_any i _).mono ?_
  rintro e x ⟨q, rfl, hc, hq, hb⟩
  replace hB := hB.trans (hb.mono hB.size)
  have hk := ptr_picks i i0 i1 wk fn o.ptrs o.data hc hq
  rw [decide_eq_false hi] at hk
  have HL := fun m r => change_no a _ q m r _ x (h.below hB hlt.1 hlt.2) o hk
  clear h o hc hk hb
  go_wp2_with fail
  refine (HL _ _).mono ?_
  rintro e y ⟨rfl, hb2⟩
  go_wp2
  go_ret
  exact ⟨rfl, hB.trans (hb2.mono hB.size)⟩





/-! ### Make -/
/-- What Make lays. -/
def madeL (l : List Int) (a p d : Nat) (wk fn : Bool) (serial : Nat) : List Int :=
  (((layL l a (fun _ => 0) (3 + p + d)).set a (headN p d wk fn false : Nat)).set (a + 1) 0).set (a + 2) serial
theorem madeL_length (l : List Int) (a p d : Nat) (wk fn : Bool) (serial : Nat) : (madeL l a p d wk fn serial).length = l.length := by
  unfold madeL; simp
theorem madeL_at {l : List Int} {a p d : Nat} {wk fn : Bool} {serial j : Nat} (h : j < l.length) :
    (madeL l a p d wk fn serial).getD j 0 = if j = a + 2 then (serial : Int) else if j = a then ((headN p d wk fn false : Nat) : Int) else if a ≤ j ∧ j < a + (3 + p + d) then 0 else l.getD j 0 := by
  unfold madeL
  rw [set_at' (by simp; exact h), set_at' (by simp; exact h), set_at' (by simp; exact h), layL_at _ _ _ _ _ h]
  by_cases e1 : j = a + 2
  · rw [if_pos e1, if_pos e1]
  · rw [if_neg e1, if_neg e1]
    by_cases e2 : j = a + 1
    · rw [if_pos e2, if_neg (by omega), if_pos (by omega)]
    · rw [if_neg e2]
theorem madeL_obj {l : List Int} {a : Nat} (serial : Nat) (h : shB p d wk fn = true) (hp : p ≤ 8) (hd : d ≤ 8) (hr : a + (3 + p + d) ≤ l.length) : ObjIs (madeL l a p d wk fn serial) a p d wk fn false :=
  ⟨h, hp, hd, by rw [madeL_length]; exact hr, by rw [madeL_at (by omega), if_neg (by omega), if_pos rfl]⟩

set_option maxHeartbeats 2000000 in
theorem make_yes (a serial : Nat) (w : World) (h : ArenaAt 76 w P b l) (o1 : shB p d wk fn = true) (o2 : p ≤ 8) (o3 : d ≤ 8) (hr : a + (3 + p + d) ≤ l.length) (hs : serial ≤ 1099511627776) :
    Calls Try.prog 20 #[.pointer (some ⟨P, 0, none⟩), .int .i64 a, shV p d wk fn, .int .i64 serial] w fun e w' => e = .returned (.int .i64 0) ∧ ArenaAt 76 w' P b (madeL l a p d wk fn serial) ∧ Chg (· = b) w w' := by
  have hlt := h.lt
  have hl := h.len
  have hlo := headN_lt (wk := wk) (fn := fn) (fr := false) o2 o3
  have HH := head_yes p d wk fn false o1 o2 o3
  have HZ := size_yes p d wk fn o1 o2 o3
  have HF : ∀ w, Calls Try.prog 41 #[.int .i64 0] w fun e w' => e = .returned (.tuple #[.int .u64 0, .bool true]) ∧ Below w.heap.size w w' := fun w => free_any 0 (by omega) w
  have s1 : decide ((serial : Int) < 0) = false := decide_eq_false (by omega)
  have s2 : decide ((1099511627776 : Int) < (serial : Int)) = false := decide_eq_false (by omega)
  have i0 : IntKind.i64.wrap ((a : Int) + 0) = ((a : Nat) : Int) := by rw [IntWalk.i64_in _ (by omega)]; omega
  have i1 : IntKind.i64.wrap ((a : Int) + 1) = ((a + 1 : Nat) : Int) := by rw [IntWalk.i64_in _ (by omega)]; omega
  have i2 : IntKind.i64.wrap ((a : Int) + 2) = ((a + 2 : Nat) : Int) := by rw [IntWalk.i64_in _ (by omega)]; omega
  have u1 : IntKind.u64.wrap (serial : Int) = (serial : Int) := by rw [IntKind.wrap_u64]; omega
  unfold madeL
  have hll : (layL l a (fun _ => 0) (3 + p + d)).length = l.length := layL_length ..
  obtain ⟨m, hM⟩ : ∃ m, layL l a (fun _ => 0) (3 + p + d) = m := ⟨_, rfl⟩
  rw [hM] at hll ⊢
  generalize headN p d wk fn false = v at *
  have hT := ResAt.new w #[.int .i64 p, .int .i64 d, .bool wk, .bool fn] 32
  go_enter Try.func20, Try.ntmps20
  go_wp2_with fail
  refine (HH _).mono ?_
  rintro e x ⟨rfl, hb⟩
  replace hT := hT.keep hb
  clear hb HH
  obtain ⟨⟨c0, c1, c2, c3⟩, f0, f1, f2, f3, l1⟩ := hT.facts4
  go_wp2_with fail
  refine (HZ _).mono ?_
  rintro e y ⟨rfl, hb⟩
  replace hT := hT.keep hb
  clear hb HZ c0 c1 c2 c3 f0 f1 f2 f3 l1
  have hB := hT.below
  clear hT
  have HL := fill_any (a : Int) (3 + (p : Int) + (d : Int)) 0 y (h.below hB hlt.1 hlt.2) (by omega) (by omega) (by omega) (by omega) (by omega)
  rw [show errV l.length (a : Int) (3 + (p : Int) + (d : Int)) = 0 from by unfold errV; rw [if_pos (fitsB_of (by omega) (by omega) (by omega))]] at HL
  rw [show fillV l (a : Int) (3 + (p : Int) + (d : Int)) 0 = layL l a (fun _ => 0) (3 + p + d) from by
    unfold fillV; rw [if_pos (fitsB_of (by omega) (by omega) (by omega)), Int.toNat_natCast, show (3 + (p : Int) + (d : Int)).toNat = 3 + p + d from by omega], hM] at HL
  clear hM
  go_wp2_with fail
  refine HL.mono ?_
  rintro e x2 ⟨rfl, ha, hc⟩
  clear HL h
  have hC := (Chg.of_below (S := (· = b)) hB (Nat.le_refl _)).trans hc
  clear hB hc
  go_wp2_with fail
  refine (HF _).mono ?_
  rintro e x3 ⟨rfl, hb⟩
  replace ha := ha.below hb (by have := ha.lt; omega) (by have := ha.lt; omega)
  replace hC := hC.trans (Chg.of_below hb (Nat.le_refl _))
  clear hb HF
  have hin : a + 2 < m.length := by omega
  have H1 := store_there a (v : Int) _ ha (by omega) (by omega)
  go_wp2_with fail
  refine H1.mono ?_
  rintro e x4 ⟨rfl, ha2, hc⟩
  replace hC := hC.trans hc
  clear hc H1 ha
  have H1 := store_there (a + 1) 0 _ ha2 (by simp; omega) (by omega)
  go_wp2_with fail
  refine H1.mono ?_
  rintro e x5 ⟨rfl, ha, hc⟩
  replace hC := hC.trans hc
  clear hc H1 ha2
  have H1 := store_there (a + 2) (serial : Int) _ ha (by simp; omega) (by omega)
  go_wp2_with fail
  refine H1.mono ?_
  rintro e x6 ⟨rfl, ha2, hc⟩
  replace hC := hC.trans hc
  clear hc H1 ha
  go_wp2
  go_ret
  exact ⟨rfl, ha2, hC⟩

/-- Where there are too few words. -/
theorem make_addr (a serial : Nat) (w : World) (h : ArenaAt 76 w P b l) (o1 : shB p d wk fn = true) (o2 : p ≤ 8) (o3 : d ≤ 8) (ha : a ≤ 65536) (hr : ¬ a + (3 + p + d) ≤ l.length) (hs : serial ≤ 1099511627776) :
    Calls Try.prog 20 #[.pointer (some ⟨P, 0, none⟩), .int .i64 a, shV p d wk fn, .int .i64 serial] w fun e w' => e = .returned (.int .i64 20) ∧ ArenaAt 76 w' P b l ∧ Chg (· = b) w w' := by
  have hlt := h.lt
  have hl := h.len
  have HH := head_yes p d wk fn false o1 o2 o3
  have HZ := size_yes p d wk fn o1 o2 o3
  have s1 : decide ((serial : Int) < 0) = false := decide_eq_false (by omega)
  have s2 : decide ((1099511627776 : Int) < (serial : Int)) = false := decide_eq_false (by omega)
  have hT := ResAt.new w #[.int .i64 p, .int .i64 d, .bool wk, .bool fn] 32
  go_enter Try.func20, Try.ntmps20
  go_wp2_with fail
  refine (HH _).mono ?_
  rintro e x ⟨rfl, hb⟩
  replace hT := hT.keep hb
  clear hb HH
  obtain ⟨⟨c0, c1, c2, c3⟩, f0, f1, f2, f3, l1⟩ := hT.facts4
  go_wp2_with fail
  refine (HZ _).mono ?_
  rintro e y ⟨rfl, hb⟩
  replace hT := hT.keep hb
  clear hb HZ c0 c1 c2 c3 f0 f1 f2 f3 l1
  have hB := hT.below
  clear hT
  have HL := fill_any (a : Int) (3 + (p : Int) + (d : Int)) 0 y (h.below hB hlt.1 hlt.2) (by omega) (by omega) (by omega) (by omega) (by omega)
  rw [show errV l.length (a : Int) (3 + (p : Int) + (d : Int)) = 20 from by unfold errV; rw [fitsB_not (by omega)]; rfl] at HL
  rw [show fillV l (a : Int) (3 + (p : Int) + (d : Int)) 0 = l from by unfold fillV; rw [fitsB_not (by omega)]; rfl] at HL
  go_wp2_with fail
  refine HL.mono ?_
  rintro e x2 ⟨rfl, ha, hc⟩
  clear HL h
  have hC := (Chg.of_below (S := (· = b)) hB (Nat.le_refl _)).trans hc
  clear hB hc
  go_wp2
  go_ret
  exact ⟨rfl, ha, hC⟩

/-- A serial that may not be. -/
theorem make_arg (a : Int) (serial : Int) (w : World) (o1 : shB p d wk fn = true) (o2 : p ≤ 8) (o3 : d ≤ 8) (hs : serial < 0 ∨ 1099511627776 < serial) :
    Calls Try.prog 20 #[.pointer (some ⟨P, 0, none⟩), .int .i64 a, shV p d wk fn, .int .i64 serial] w fun e w' => e = .returned (.int .i64 1) ∧ Below w.heap.size w w' := by
  have HH := head_yes p d wk fn false o1 o2 o3
  have hT := ResAt.new w #[.int .i64 p, .int .i64 d, .bool wk, .bool fn] 32
  rcases hs with hs | hs
  · have s1 : decide ((serial : Int) < 0) = true := decide_eq_true (by omega)
    go_enter Try.func20, Try.ntmps20
    go_wp2_with fail
    refine (HH _).mono ?_
    rintro e x ⟨rfl, hb⟩
    replace hT := hT.keep hb
    go_wp2
    go_ret
    exact ⟨rfl, hT.below⟩
  · have s1 : decide ((serial : Int) < 0) = false := decide_eq_false (by omega)
    have s2 : decide ((1099511627776 : Int) < serial) = true := decide_eq_true (by omega)
    go_enter Try.func20, Try.ntmps20
    go_wp2_with fail
    refine (HH _).mono ?_
    rintro e x ⟨rfl, hb⟩
    replace hT := hT.keep hb
    go_wp2
    go_ret
    exact ⟨rfl, hT.below⟩
end

end Go.Proofs.Ytoohnnkhklifdaa

namespace Go.Proofs.Ytoohnnkhklifdaa
open Go.ChangeShapes Go.WideShapes Go.ChangeAt Go.RowKit

set_option linter.unusedSimpArgs false
set_option linter.unusedVariables false

/-- What Gone tells of a place. -/
def mayGo (n : Nat) : Bool := decide (1 ≤ n ∧ n ≤ 131072)
def goneN (n : Nat) : Nat := if mayGo n then 2 + n * 4 else 0

set_option maxHeartbeats 1000000 in
theorem gone_any (n : Nat) (hn : n < 4611686018427387904) (w : World) :
    Calls Try.prog 49 #[.int .i64 n] w fun e w' => e = .returned (.tuple #[.int .u64 (goneN n : Nat), .bool (mayGo n)]) ∧ Below w.heap.size w w' := by
  have hL := lay_2_64 n hn (by omega)
  have o1 : bits .or .u64 2 _ = _ := or_val 2 (n * 4) 2 n (by omega) (by omega) (by omega) (by omega)
  by_cases h1 : 1 ≤ n
  · by_cases h2 : n ≤ 131072
    · rw [show goneN n = 2 + n * 4 from by simp [goneN, mayGo, h1, h2], show mayGo n = true from decide_eq_true ⟨h1, h2⟩]
      have i1 : decide ((n : Int) < 1) = false := decide_eq_false (by omega)
      have i2 : decide ((131072 : Int) < (n : Int)) = false := decide_eq_false (by omega)
      generalize 2 + n * 4 = v at *
      generalize n * 4 = u at *
      go_enter Try.func49, Try.ntmps49
      go_wp2_with fail
      refine (lay_one_1_2 _).mono ?_
      rintro e x ⟨rfl, hb⟩
      go_wp2_with fail
      refine (hL _).mono ?_
      rintro e y ⟨rfl, hb2⟩
      go_wp2
      go_ret2
      exact ⟨rfl, hb.trans (hb2.mono hb.size)⟩
    · rw [show goneN n = 0 from by simp [goneN, mayGo, h1, h2], show mayGo n = false from decide_eq_false fun h => h2 h.2]
      have i1 : decide ((n : Int) < 1) = false := decide_eq_false (by omega)
      have i2 : decide ((131072 : Int) < (n : Int)) = true := decide_eq_true (by omega)
      go_enter Try.func49, Try.ntmps49
      go_wp2
      go_ret2
      exact ⟨rfl, Below.refl _ _⟩
  · rw [show goneN n = 0 from by simp [goneN, mayGo, h1], show mayGo n = false from decide_eq_false fun h => h1 h.1]
    have i1 : decide ((n : Int) < 1) = true := decide_eq_true (by omega)
    go_enter Try.func49, Try.ntmps49
    go_wp2
    go_ret2
    exact ⟨rfl, Below.refl _ _⟩

/-- Whether a word is a Gone. -/
def isGone (a : Nat) : Bool := mayGo (a / 4) && decide (goneN (a / 4) = a)

set_option maxHeartbeats 1000000 in
theorem where_any (a : Nat) (ha : a < 18446744073709551616) (w : World) :
    Calls Try.prog 69 #[.int .u64 a] w fun e w' => e = .returned (.tuple #[.int .i64 (if isGone a then (a / 4 : Nat) else 0 : Nat), .bool (isGone a)]) ∧ Below w.heap.size w w' := by
  have hR := read_2_64 a ha
  rw [show a / 4 % 4611686018427387904 = a / 4 from by omega] at hR
  have hG := gone_any (a / 4) (by omega)
  unfold isGone
  generalize a / 4 = n at *
  generalize mayGo n = ok at *
  generalize goneN n = v at *
  go_enter Try.func69, Try.ntmps69
  go_wp2_with fail
  refine (hR _).mono ?_
  rintro e x ⟨rfl, hb⟩
  go_wp2_with fail
  refine (hG _).mono ?_
  rintro e y ⟨rfl, hb2⟩
  have hB := hb.trans (hb2.mono hb.size)
  clear hb hb2 hR hG
  cases ok
  · go_wp2
    go_ret2
    exact ⟨by simp, hB⟩
  · by_cases hva : v = a
    · subst hva
      go_wp2
      go_ret2
      exact ⟨by simp, hB⟩
    · have n1 : ((v : Int) = (a : Int)) = False := by simp; omega
      go_wp2
      all_goals
        go_ret2
        exact ⟨by simp [hva], hB⟩




end Go.Proofs.Ytoohnnkhklifdaa

namespace Go.Proofs.Ytoohnnkhklifdaa
open Go.ChangeShapes Go.WideShapes Go.ChangeAt Go.RowKit

set_option linter.unusedSimpArgs false
set_option linter.unusedVariables false

theorem moveV_yes {l : List Int} {a c n : Int} (h1 : fitsB l.length a n = true) (h2 : fitsB l.length c n = true) : moveV l a c n = layL l c.toNat (fun j => l.getD (a.toNat + j) 0) n.toNat := by
  unfold moveV; rw [h1, h2]; rfl
theorem moveV_no {l : List Int} {a c n : Int} (h : (fitsB l.length a n && fitsB l.length c n) = false) : moveV l a c n = l := by
  unfold moveV; rw [h]; rfl

theorem err2V_yes {len : Nat} {a c n : Int} (h1 : fitsB len a n = true) (h2 : fitsB len c n = true) : err2V len a c n = 0 := by
  unfold err2V; rw [h1, h2]; rfl
theorem err2V_no {len : Nat} {a c n : Int} (h : (fitsB len a n && fitsB len c n) = false) : err2V len a c n = 20 := by
  unfold err2V; rw [h]; rfl

/-- What is copied, as the walk's law wants it. -/
theorem move_cells {l : List Int} {a c n : Nat} (w : World) (b : Nat) (t : TypeId) (hr : BlkIs w b (l.map (Value.int .u64)).toArray t) (ha : a + n ≤ l.length) :
    ∀ j v, ((List.range n).map fun j => Value.int .u64 (l.getD (a + j) 0))[j]? = some v → w.cell? ((⟨b, a, none⟩ : Addr).add j) = some v := by
  intro j v hv
  have e : (⟨b, a, none⟩ : Addr).add j = ⟨b, a + j, none⟩ := by unfold Addr.add; split <;> simp_all
  rw [e, hr.cell]
  by_cases hj : j < n
  · simp [hj] at hv
    subst hv
    have : a + j < l.length := by omega
    simp [List.getD, this]
  · simp [hj] at hv

theorem move_yes {p b : Nat} {l : List Int} (a c n : Nat) (w : World) (h : ArenaAt 76 w p b l) (h1 : a + n ≤ l.length) (h2 : c + n ≤ l.length) (hpos : 0 < n) :
    Calls Try.prog 48 #[.pointer (some ⟨p, 0, none⟩), .int .i64 a, .int .i64 c, .int .i64 n] w fun e w' => e = .returned (.int .i64 0) ∧ ArenaAt 76 w' p b (layL l c (fun j => l.getD (a + j) 0) n) ∧ Chg (· = b) w w' := by
  have hl := h.len
  have H := Lib.hid h
  have F1 := Lib.hid (fitsB_of (len := l.length) (a := a) (n := n) (by omega) (by omega) (by omega))
  have F2 := Lib.hid (fitsB_of (len := l.length) (a := c) (n := n) (by omega) (by omega) (by omega))
  have hs := h.slot
  have s1 : IntKind.i64.wrap ((a : Int) + n) = (a : Int) + n := IntWalk.i64_in _ (by omega)
  have s2 : IntKind.i64.wrap ((c : Int) + n) = (c : Int) + n := IntWalk.i64_in _ (by omega)
  have s3 : ((a : Int) + n).toNat = a + n := by omega
  have s4 : ((c : Int) + n).toNat = c + n := by omega
  have a0 : (0 : Int) ≤ a := by omega
  have c0 : (0 : Int) ≤ c := by omega
  have n0 : (0 : Int) ≤ n := by omega
  have a1 : (a : Int) + n ≤ l.length := by omega
  have c1 : (c : Int) + n ≤ l.length := by omega
  have a2 : (a : Int) ≤ (a : Int) + n := by omega
  have c2 : (c : Int) ≤ (c : Int) + n := by omega
  have a3 : (0 : Int) ≤ (a : Int) + n := by omega
  have c3 : (0 : Int) ≤ (c : Int) + n := by omega
  have hpb : p ≠ b := h.ne (by decide)
  clear h
  go_enter Try.func48, Try.ntmps48
  go_wp2_with ((with_reducible refine (has_any _ _ _ H.out (by omega) (by omega) (by omega) (by omega)).mono ?_); rintro e w' ⟨rfl, rfl⟩; first | rw [F1.out] | rw [F2.out])
  by_cases hn : 0 < n
  · have hrow := H.out.row
    have hcs := move_cells (c := c) w b _ hrow h1
    have hlen : ((List.range n).map fun j => Value.int .u64 (l.getD (a + j) 0)).length = n := by simp
    have hone : ∀ v ∈ (List.range n).map fun j => Value.int .u64 (l.getD (a + j) 0), v.oneCell' = true := by
      intro v hv; obtain ⟨j, _, rfl⟩ := List.mem_map.1 hv; rfl
    obtain ⟨cs, hdef⟩ : ∃ cs, ((List.range n).map fun j => Value.int .u64 (l.getD (a + j) 0)) = cs := ⟨_, rfl⟩
    rw [hdef] at hcs hlen hone
    have Hd := Lib.hid hdef
    have Hc := Lib.hid hcs
    have Hl := Lib.hid hlen
    have Ho := Lib.hid hone
    have Hr := Lib.hid hrow
    have hna : ¬ l.length = a := by omega
    have hnc : ¬ l.length = c := by omega
    clear hdef hcs hlen hone hrow
    go_region_held3 (fun w' => w'.cell? ⟨p, 0, none⟩ = some (.slice (some ⟨b, 0, none⟩) l.length l.length)) (first | go_keep | (rw [cell_setRow_other _ _ _ _ hpb]; assumption))
      ((refine step_copy_at rfl (.tmp 29) (.tmp 38) 74 74 rfl 79 Try.underlying74 (by kernel_rfl) (some ⟨b, c, none⟩) (some ⟨b, a, none⟩) n (l.length - c) n (l.length - a) (by rfl) (by rfl) b c (l.map (Value.int .u64)) 79 Hr.out cs (by rw [Hl.out]; simp) (fun _ => ⟨rfl, _, rfl, Hc.out⟩) (by rw [Hl.out]; simpa using h2) Ho.out ?_))
    go_wp2
    go_ret
    refine ⟨rfl, ?_, (Chg.refl (· = b) _).drew.setRow (.inl rfl) _⟩
    rw [← Hd.out]
    have hA : ArenaAt 76 w.drew p b l := ⟨H.out.head, H.out.row, H.out.len, H.out.fits⟩
    exact hA.put (by decide) h2 fun j _ => getD_fits H.out.fits _
  · exact absurd hpos hn

theorem move_nil {p b : Nat} {l : List Int} (a c : Nat) (w : World) (h : ArenaAt 76 w p b l) (h1 : a ≤ l.length) (h2 : c ≤ l.length) :
    Calls Try.prog 48 #[.pointer (some ⟨p, 0, none⟩), .int .i64 a, .int .i64 c, .int .i64 0] w fun e w' => e = .returned (.int .i64 0) ∧ ArenaAt 76 w' p b l ∧ Chg (· = b) w w' := by
  have hl := h.len
  have H := Lib.hid h
  have F1 := Lib.hid (fitsB_of (len := l.length) (a := a) (n := 0) (by omega) (by omega) (by omega))
  have F2 := Lib.hid (fitsB_of (len := l.length) (a := c) (n := 0) (by omega) (by omega) (by omega))
  have hs := h.slot
  have Hr := Lib.hid h.row
  have a0 : (0 : Int) ≤ a := by omega
  have c0 : (0 : Int) ≤ c := by omega
  have a1 : (a : Int) ≤ l.length := by omega
  have c1 : (c : Int) ≤ l.length := by omega
  have s1 : IntKind.i64.wrap (a : Int) = a := IntWalk.i64_in _ (by omega)
  have s2 : IntKind.i64.wrap (c : Int) = c := IntWalk.i64_in _ (by omega)
  have hpb : p ≠ b := h.ne (by decide)
  clear h
  by_cases ea : l.length = a
  all_goals by_cases ec : l.length = c
  all_goals try subst ea
  all_goals try subst ec
  all_goals
    go_enter Try.func48, Try.ntmps48
    go_wp2_with ((with_reducible refine (has_any _ _ _ H.out (by omega) (by omega) (by omega) (by omega)).mono ?_); rintro e w' ⟨rfl, rfl⟩; first | rw [F1.out] | rw [F2.out])
    go_region_held3 (fun w' => w'.cell? ⟨p, 0, none⟩ = some (.slice (some ⟨b, 0, none⟩) l.length l.length)) (first | go_keep | (rw [cell_setRow_other _ _ _ _ hpb]; assumption))
      ((refine step_copy_at rfl (.tmp 29) (.tmp 38) 74 74 rfl 79 Try.underlying74 (by kernel_rfl) _ _ _ _ _ _ (by rfl) (by rfl) b 0 (l.map (Value.int .u64)) 79 Hr.out [] (by simp) (fun h => absurd h (by simp)) (by simp) (by simp) ?_))
    go_wp2
    go_ret
    refine ⟨rfl, ?_, (Chg.refl (· = b) _).drew.setRow (.inl rfl) _⟩
    have hA : ArenaAt 76 w.drew p b l := ⟨H.out.head, H.out.row, H.out.len, H.out.fits⟩
    exact hA.put (by decide) (a := 0) (k := 0) (f := fun _ => 0) (by simp) fun j _ => by omega

theorem move_any {p b : Nat} {l : List Int} (a c n : Int) (w : World) (h : ArenaAt 76 w p b l) (a0 : -9223372036854775808 ≤ a) (a1 : a ≤ 9223372036854775807) (c0 : -9223372036854775808 ≤ c) (c1 : c ≤ 9223372036854775807) (n0 : -9223372036854775808 ≤ n) (n1 : n ≤ 9223372036854775807) :
    Calls Try.prog 48 #[.pointer (some ⟨p, 0, none⟩), .int .i64 a, .int .i64 c, .int .i64 n] w fun e w' => e = .returned (.int .i64 (err2V l.length a c n)) ∧ ArenaAt 76 w' p b (moveV l a c n) ∧ Chg (· = b) w w' := by
  cases f1 : fitsB l.length a n
  · rw [moveV_no (by rw [f1]; rfl), err2V_no (by rw [f1]; rfl)]
    have F1 := Lib.hid f1
    clear f1
    go_enter Try.func48, Try.ntmps48
    go_wp2_with ((with_reducible refine (has_any _ _ _ h a0 a1 n0 n1).mono ?_); rintro e w' ⟨rfl, rfl⟩; rw [F1.out])
    go_ret
    exact ⟨rfl, h, Chg.refl _ _⟩
  · cases f2 : fitsB l.length c n
    · rw [moveV_no (by rw [f1, f2]; rfl), err2V_no (by rw [f1, f2]; rfl)]
      have F1 := Lib.hid f1
      have F2 := Lib.hid f2
      clear f1 f2
      go_enter Try.func48, Try.ntmps48
      go_wp2_with fail
      refine (has_any _ _ _ h a0 a1 n0 n1).mono ?_
      rintro e w' ⟨rfl, rfl⟩
      rw [F1.out]
      go_wp2_with fail
      refine (has_any _ _ _ h c0 c1 n0 n1).mono ?_
      rintro e w' ⟨rfl, rfl⟩
      rw [F2.out]
      go_wp2
      go_ret
      exact ⟨rfl, h, Chg.refl _ _⟩
    · rw [moveV_yes f1 f2, err2V_yes f1 f2]
      obtain ⟨h1, h2, h3⟩ := fitsB_yes f1
      obtain ⟨h4, _, h5⟩ := fitsB_yes f2
      obtain ⟨a, rfl⟩ : ∃ k : Nat, a = k := ⟨a.toNat, by omega⟩
      obtain ⟨c, rfl⟩ : ∃ k : Nat, c = k := ⟨c.toNat, by omega⟩
      obtain ⟨n, rfl⟩ : ∃ k : Nat, n = k := ⟨n.toNat, by omega⟩
      simp only [Int.toNat_natCast]
      by_cases hn : 0 < n
      · exact move_yes a c n w h (by omega) (by omega) hn
      · obtain rfl : n = 0 := by omega
        exact move_nil a c w h (by simpa using h3) (by simpa using h5)

end Go.Proofs.Ytoohnnkhklifdaa

namespace Go.Proofs.Ytoohnnkhklifdaa
open Go.RowKit

/-- The iterator hands yield its k-th answer at the k-th call, and goes on as long as yield says so: at most M times. -/
def Asked (F : Fence) (n : Nat) (P : Program) (g : Nat) (lb : Array Value) (ask : Nat → Array Value) (M : Nat) (w : World) : Prop :=
  ∀ (l : Nat) (J Jx : Nat → World → Prop) (W : World), Below w.heap.size w W → (∀ k V, J k V → k < M) →
    (∀ k V, J k V → YieldAt F (n - 1) P l (ask k) V fun e V' => (e = .returned (.bool true) ∧ J (k + 1) V') ∨ (e = .returned (.bool false) ∧ Jx k V')) → J 0 W →
    CallsIn F n P g (#[.func (.yield l) #[] #[]] ++ lb) W fun e V => (∃ v, e = .returned v) ∧ ∃ k, Jx k V

/-- How the body of the k-th round may be left: it goes on, or it leaves the loop by c. -/
def askPost (B : Nat) (I : Nat → World → Prop) (Ix : Code → Nat → World → Prop) (k : Nat) (V : World) : Exit → Act → World → Prop
  | .normal, _, V' => KeepsFrom B V V' ∧ I (k + 1) V'
  | .ret, _, V' => KeepsFrom B V V' ∧ Ix .ret k V'
  | .exit id, _, V' => KeepsFrom B V V' ∧ Ix (.exit id) k V'
  | _, _, _ => False

theorem range_asked {F : Fence} {n : Nat} {P : Program} {g : Operand} {ps : Array Tmp} {assign body : Code} {Q : Exit → Act → World → Prop} {a : Act} {w : World}
    (hro : F.round = none) (h1 : 1 ≤ n) {gf : Nat} {lb : Array Value} (hg : a.eval g = .func (.func gf) #[] lb) (hF : F.fn gf) (hent : ∀ args w, (callFunc gf args).run P w = .ok (.enter gf args) w)
    {ask : Nat → Array Value} {M : Nat} (hask : Asked F (n - 1) P gf lb ask M w) (hps : ∀ k, (ask k).size = ps.size) (I : Nat → World → Prop) (Ix : Code → Nat → World → Prop)
    (hI : OwnFrom w.heap.size I) (hIx : ∀ c, OwnFrom w.heap.size (Ix c)) (hM : ∀ k V, I k V → k < M) (h0 : I 0 w) (row : Nat → Act)
    (hassign : ∀ (l k : Nat) (V : World) (K : Act → World → Prop), I k V → K (row k) V →
      assign.wpIn (F.inRound l) (n - 1 - 1) P (Exit.then K (fun _ _ _ => False)) { tmps := (ps.zip (ask k)).foldl (fun t (p, v) => t.setIfInBounds p v) a.tmps, defers := [] } V)
    (hbody : ∀ (l k : Nat) (V : World), w.heap.size ≤ l → I k V → body.wpIn (F.inRound l) (n - 1 - 1) P (askPost w.heap.size I Ix k V) (row k) V)
    (hstop : ∀ (D : Nat) (c : Code) (k : Nat) (V : World), w.heap.size ≤ D → Ix c k V → V.heap[D]? = some (.deferred (some [])) →
      c.wpIn F n P Q { a with defers := { target := .collected D, args := #[] } :: a.defers } V) :
    (Code.rangeFunc g ps assign body).wpIn F n P Q a w := by
  refine wpIn_rangeFunc fun fn hfn => ?_
  rw [hro]
  -- the record of the loop, in state s with jump j
  let R : LoopState → Option Code → Loop := fun s j => { state := s, pending := j, fn, tmps := a.tmps, params := ps, assign, body, defers := w.heap.size }
  let W := (w.alloc (.deferred (some []))).alloc (.loop (R .ready none))
  -- what of the books lies where while the iterator runs
  let Books : LoopState → Option Code → World → Prop := fun s j V => V.heap[w.heap.size + 1]? = some (.loop (R s j)) ∧ V.heap[w.heap.size]? = some (.deferred (some []))
  have hBooks0 : Books .ready none W := by
    constructor
    · have := World.alloc_heap_new (w.alloc (.deferred (some []))) (.loop (R .ready none))
      rwa [World.size_alloc] at this
    · exact (Below.heap_alloc _ _ _ (by simp)).trans (World.alloc_heap_new w _)
  -- one turn of the record keeps the caller's facts and the other book
  have turn : ∀ {s s' : LoopState} {j j' : Option Code} {V : World}, Books s j V →
      Books s' j' (V.putObj (w.heap.size + 1) (.loop (R s' j'))) := fun h =>
    ⟨World.putObj_heap_same (Array.getElem?_eq_some_iff.1 h.1).1, (World.putObj_heap_other (by omega)).trans h.2⟩
  have keep : ∀ {s : LoopState} {j : Option Code} {V V' : World}, Books s j V → KeepsFrom w.heap.size V V' → Books s j V' := fun h k =>
    ⟨k.same _ _ (by omega) h.1 rfl, k.same _ _ (Nat.le_refl _) h.2 rfl⟩
  have stay : ∀ {J : Nat → World → Prop} {s : LoopState} {j : Option Code} {k : Nat} {V : World} (o : Obj), OwnFrom w.heap.size J → Books s j V → J k V → J k (V.putObj (w.heap.size + 1) o) := fun o hJ h hj =>
    hJ.putObj o hj (by omega) h.1 rfl
  refine ⟨w.heap.size + 1, [{ target := .collected w.heap.size, args := #[] }], W, { target := .fn (.func gf) lb, args := #[.func (.yield (w.heap.size + 1)) #[] #[]] }, W, gf,
    #[.func (.yield (w.heap.size + 1)) #[] #[]] ++ lb, W, run_enterLoop_outer _ _ _ _ _, ?_, ?_, ?_, fun _ => h1, ?_⟩
  · simp only [resolve, hg]
    simp [go_sem]
  · intro f' hf'
    simp [Target.leads] at hf'
    exact hf' ▸ hF
  · simp [invoke, go_sem, hent]
  refine (hask (w.heap.size + 1) (fun k V => I k V ∧ Books .ready none V) (fun k V => ∃ c, Ix c k V ∧ Books .done (some c) V) W ?_ (fun k V h => hM k V h.1) ?_ ⟨?_, hBooks0⟩).mono ?_
  · exact ((Below.refl _ w).alloc (Nat.le_refl _) _).alloc (by simp) _
  · -- a round
    rintro k V ⟨hi, hb⟩
    refine ⟨fn, _, assign, body, run_yield (P := P) (args := ask k) hb.1 (hps k), roundIn_of_wpIn hfn (hassign _ k V _ hi ?_)⟩
    refine ⟨_, run_beginRound hb.1 rfl, ?_⟩
    have hb1 : Books .busy none (V.putObj (w.heap.size + 1) (.loop (R .busy none))) := turn hb
    refine wpIn_mono (hbody _ k _ (by omega) (stay _ hI hb hi)) ?_
    rintro e a' V' hp
    cases e with
    | normal =>
      obtain ⟨hk, hi'⟩ := hp
      have hb2 := keep hb1 hk
      exact ⟨_, _, run_endRound none hb2.1, .inl ⟨rfl, stay _ hI hb2 hi', turn hb2⟩⟩
    | ret =>
      obtain ⟨hk, hi'⟩ := hp
      have hb2 := keep hb1 hk
      exact ⟨_, _, run_endRound (some .ret) hb2.1, .inr ⟨rfl, .ret, stay _ (hIx _) hb2 hi', turn hb2⟩⟩
    | exit id =>
      obtain ⟨hk, hi'⟩ := hp
      have hb2 := keep hb1 hk
      exact ⟨_, _, run_endRound (some (.exit id)) hb2.1, .inr ⟨rfl, .exit id, stay _ (hIx _) hb2 hi', turn hb2⟩⟩
    | goto t => exact hp.elim
    | panic ch => exact hp.elim
    | outgrown => exact hp.elim
  · exact hI.alloc _ (hI.alloc _ h0)
  · -- behind the iterator
    rintro e V ⟨⟨v, rfl⟩, k, c, hi, hb⟩
    exact ⟨some c, _, run_endLoop hb.1 (by simp [R]), hstop _ c k _ (Nat.le_refl _) (stay _ (hIx c) hb hi) ((World.putObj_heap_other (by omega)).trans hb.2)⟩

end Go.Proofs.Ytoohnnkhklifdaa

namespace Go.Proofs.Ytoohnnkhklifdaa
namespace Cls

/-- The size at place k. -/
def sz (k : Nat) : Nat := if k % 2 = 0 then 4 * 2 ^ (k / 2) else 6 * 2 ^ (k / 2)
theorem sz_even (j : Nat) : sz (2 * j) = 4 * 2 ^ j := by
  unfold sz
  rw [if_pos (by omega), show 2 * j / 2 = j from by omega]
theorem sz_odd (j : Nat) : sz (2 * j + 1) = 6 * 2 ^ j := by
  unfold sz
  rw [if_neg (by omega), show (2 * j + 1) / 2 = j from by omega]
theorem sz_two (k : Nat) : sz (k + 2) = 2 * sz k := by
  have h : k % 2 = 0 ∨ k % 2 = 1 := by omega
  rcases h with h | h
  · obtain ⟨j, rfl⟩ : ∃ j, k = 2 * j := ⟨k / 2, by omega⟩
    rw [show 2 * j + 2 = 2 * (j + 1) from by omega, sz_even, sz_even, Nat.pow_succ]; omega
  · obtain ⟨j, rfl⟩ : ∃ j, k = 2 * j + 1 := ⟨k / 2, by omega⟩
    rw [show 2 * j + 1 + 2 = 2 * (j + 1) + 1 from by omega, sz_odd, sz_odd, Nat.pow_succ]; omega
/-- Two sizes one behind the other: the later is half as much more, or a third. -/
theorem sz_next (k : Nat) : 2 * sz (k + 1) = 3 * sz k ∨ 3 * sz (k + 1) = 4 * sz k := by
  have h : k % 2 = 0 ∨ k % 2 = 1 := by omega
  rcases h with h | h
  · obtain ⟨j, rfl⟩ : ∃ j, k = 2 * j := ⟨k / 2, by omega⟩
    left
    rw [sz_even, sz_odd]; omega
  · obtain ⟨j, rfl⟩ : ∃ j, k = 2 * j + 1 := ⟨k / 2, by omega⟩
    right
    rw [show 2 * j + 1 + 1 = 2 * (j + 1) from by omega, sz_even, sz_odd, Nat.pow_succ]; omega
theorem sz_pos (k : Nat) : 4 ≤ sz k := by
  have h : 0 < 2 ^ (k / 2) := Nat.pos_of_ne_zero (by simp)
  unfold sz
  split <;> omega
theorem sz_lt_succ (k : Nat) : sz k < sz (k + 1) := by
  have h := sz_next k
  have := sz_pos k
  omega
theorem sz_lt {j k : Nat} (h : j < k) : sz j < sz k := by
  induction k with
  | zero => omega
  | succ k ih =>
    by_cases e : j = k
    · exact e ▸ sz_lt_succ k
    · exact Nat.lt_trans (ih (by omega)) (sz_lt_succ k)
theorem sz_le {j k : Nat} (h : j ≤ k) : sz j ≤ sz k := by
  by_cases e : j = k
  · rw [e]; exact Nat.le_refl _
  · exact Nat.le_of_lt (sz_lt (by omega))
theorem sz_28 : sz 28 = 65536 := by decide
theorem sz_0 : sz 0 = 4 := by decide
theorem sz_1 : sz 1 = 6 := by decide
theorem sz_2 : sz 2 = 8 := by decide
theorem sz_3 : sz 3 = 12 := by decide
theorem pow_le {j : Nat} (h : j < 15) : 2 ^ j ≤ 16384 := Nat.pow_le_pow_right (by omega) (show j ≤ 14 by omega)

/-- The place of the least size that is m or above (m no more than 2^16). -/
def at' (m : Nat) : Nat := ((List.range 29).find? fun k => decide (m ≤ sz k)).getD 0
theorem at_spec {m : Nat} (h : m ≤ 65536) : at' m ≤ 28 ∧ m ≤ sz (at' m) ∧ ∀ j, j < at' m → sz j < m := by
  cases hf : (List.range 29).find? fun k => decide (m ≤ sz k) with
  | none =>
    have := List.find?_eq_none.1 hf 28 (by simp)
    rw [sz_28] at this
    simp at this; omega
  | some k =>
    obtain ⟨h1, us, bs, h2, h3⟩ := List.find?_eq_some_iff_append.1 hf
    have hl := congrArg (fun l => l[us.length]?) h2
    simp only [List.getElem?_append_right (Nat.le_refl _), Nat.sub_self, List.getElem?_cons_zero] at hl
    have hk : us.length = k ∧ k < 29 := by
      have hlen := congrArg List.length h2
      simp at hlen
      rw [List.getElem?_range (by omega)] at hl
      simp at hl; omega
    have hat : at' m = k := by unfold at'; rw [hf]; rfl
    rw [hat]
    refine ⟨by omega, by simpa using h1, fun j hj => ?_⟩
    have hj2 := congrArg (fun l => l[j]?) h2
    rw [List.getElem?_append_left (by omega), List.getElem?_range (by omega)] at hj2
    have := h3 j (List.mem_of_getElem? hj2.symm)
    simpa using this
theorem at_eq {m k : Nat} (h : m ≤ 65536) (h1 : m ≤ sz k) (h2 : ∀ j, j < k → sz j < m) : at' m = k := by
  obtain ⟨_, a2, a3⟩ := at_spec h
  by_cases e : at' m < k
  · have := h2 _ e; omega
  · by_cases e2 : k < at' m
    · have := a3 _ e2; omega
    · omega
/-- The size that m is rounded to. -/
def rd (m : Nat) : Nat := sz (at' m)
theorem rd_ge {m : Nat} (h : m ≤ 65536) : m ≤ rd m := (at_spec h).2.1
theorem rd_le {m : Nat} (h : m ≤ 65536) : rd m ≤ 65536 := by
  rw [← sz_28]; exact sz_le (at_spec h).1
theorem at_sz {k : Nat} (h : k ≤ 28) : at' (sz k) = k := at_eq (by rw [← sz_28]; exact sz_le h) (Nat.le_refl _) fun _ hj => sz_lt hj
theorem rd_rd {m : Nat} (h : m ≤ 65536) : rd (rd m) = rd m := by
  unfold rd
  rw [at_sz (at_spec h).1]
theorem rd_half {m : Nat} (h : m ≤ 65536) (h3 : 3 ≤ m) : 2 * rd m ≤ 3 * m := by
  obtain ⟨_, a2, a3⟩ := at_spec h
  unfold rd
  cases hk : at' m with
  | zero => rw [sz_0]; omega
  | succ k =>
    have := a3 k (by omega)
    have := sz_next k
    omega
theorem at_mono {m n : Nat} (h : m ≤ n) (hn : n ≤ 65536) : at' m ≤ at' n := by
  obtain ⟨_, a2, a3⟩ := at_spec (m := m) (by omega)
  obtain ⟨_, b2, _⟩ := at_spec hn
  by_cases e : at' n < at' m
  · have := a3 _ e; omega
  · omega
theorem rd_mono {m n : Nat} (h : m ≤ n) (hn : n ≤ 65536) : rd m ≤ rd n := sz_le (at_mono h hn)
theorem rd_eq_iff {m n : Nat} : rd m = rd n ↔ at' m = at' n := by
  constructor
  · intro h
    by_cases e : at' m < at' n
    · have := sz_lt e; unfold rd at h; omega
    · by_cases e2 : at' n < at' m
      · have := sz_lt e2; unfold rd at h; omega
      · omega
  · intro h; unfold rd; rw [h]
theorem at_double {m : Nat} (h4 : 4 ≤ m) (h : m ≤ 32768) : at' (2 * m) = at' m + 2 := by
  obtain ⟨_, a2, a3⟩ := at_spec (m := m) (by omega)
  refine at_eq (by omega) (by rw [sz_two]; omega) fun j hj => ?_
  by_cases e : j < 2
  · have h1 := sz_le (show j ≤ 1 by omega)
    rw [sz_1] at h1; omega
  · obtain ⟨i, rfl⟩ : ∃ i, j = i + 2 := ⟨j - 2, by omega⟩
    have := a3 i (by omega)
    rw [sz_two]; omega
theorem at_next {m : Nat} (h : m ≤ 32768) : at' (rd m + 1) = at' m + 1 ∧ rd m ≤ 32768 := by
  have hk : at' m ≤ 26 := by
    have h26 : at' 32768 = 26 := at_eq (by omega) (by decide) fun j hj => by
      have h1 := sz_lt hj
      rwa [show sz 26 = 32768 from by decide] at h1
    rw [← h26]; exact at_mono h (by omega)
  have hr : rd m ≤ 32768 := by
    have := sz_le hk
    rwa [show sz 26 = 32768 from by decide] at this
  refine ⟨at_eq (by omega) ?_ fun j hj => ?_, hr⟩
  · have := sz_lt_succ (at' m)
    unfold rd; omega
  · have := sz_le (show j ≤ at' m by omega)
    unfold rd; omega

end Cls
end Go.Proofs.Ytoohnnkhklifdaa

namespace Go.Proofs.Ytoohnnkhklifdaa

theorem rowsIn_wide {n : Nat} {P : Program} {row : String} {args : Array Value} {w : World} {R : Value → World → Prop} (h : Rows P row args w R) : RowsIn Fence.wide n P row args w R :=
  fun c cs _ => let ⟨v, w', r, s⟩ := h c cs; ⟨v, w', r, stepsIn_wide.2 s⟩

theorem operIn_of_oper {l n : Nat} {P : Program} {o : Oper} {a : Act} {w : World} {K : Act → World → Prop} {Q : Exit → Act → World → Prop} (hd : ∀ c, o.op ≠ .defer c) (h : o.wp P a w K Q) :
    o.wpIn (Fence.wide.inRound l) n P a w K Q := by
  refine ⟨fun _ _ => trivial, ?_⟩
  rw [show (Fence.wide.inRound l).round = some l from rfl, Oper.semAt_some l a.eval o hd]
  unfold Oper.wp at h
  generalize (execOp a.eval o).run P w = r at *
  cases r with
  | ok x w' =>
    cases x with
    | value v => exact h
    | skip => exact h
    | defer d => exact h
    | enter f args =>
      refine ⟨fun hh => by simp [Fence.wide, Fence.inRound] at hh, (CallsIn.inRound l (callsIn_wide.2 h)).mono fun e w'' he => ?_⟩
      cases e <;> exact he
    | row row args => exact ⟨fun hh => by simp [Fence.wide, Fence.inRound] at hh, rowsIn_wide h⟩
    | _ => exact h.elim
  | halt x w' =>
    cases x <;> exact h

/-- No operation defers. -/
def plainOps (ops : Array Oper) : Bool := ops.all fun o => match o.op with | .defer _ => false | _ => true
theorem plainOps_spec {ops : Array Oper} (h : plainOps ops = true) {i : Nat} {o : Oper} (ho : ops[i]? = some o) : ∀ c, o.op ≠ .defer c := by
  intro c hc
  unfold plainOps at h
  rw [Array.all_eq_true] at h
  obtain ⟨hi, he⟩ := Array.getElem?_eq_some_iff.1 ho
  have := h i hi
  rw [he, hc] at this
  cases this

theorem opsIn_of_ops {l n : Nat} {P : Program} {ops : Array Oper} {Q : Exit → Act → World → Prop} (hp : plainOps ops = true) (hq : ¬ LetsOut Q) :
    ∀ (is : List Nat) (a : Act) (w : World), wpOps P ops Q is a w → wpOpsIn (Fence.wide.inRound l) n P ops Q is a w := by
  intro is
  induction is with
  | nil => intro a w h; exact h
  | cons i rest ih =>
    intro a w h
    rw [wpOps_cons] at h
    rw [wpOpsIn_cons]
    unfold wpOp at h
    unfold wpOpIn
    cases ho : ops[i]? with
    | none => simp only [ho] at h ⊢; exact ih _ _ h
    | some o =>
      simp only [ho] at h ⊢
      by_cases hw : Region.wanted o (yielded ops a.tmps) = true
      · simp only [hw, if_true] at h ⊢
        rcases h with h | ⟨_, h⟩
        · exact operIn_of_oper (plainOps_spec hp ho) (Oper.wp_mono (fun a w => ih a w) h)
        · exact absurd h hq
      · simp only [hw] at h ⊢
        exact ⟨fun _ _ => trivial, ih _ _ h⟩

theorem region_round {l n : Nat} {P : Program} {id : Nat} {ops : Array Oper} {Q : Exit → Act → World → Prop} {a : Act} {w : World} (S : World → Prop) (hm : P.follows .mixedOrders = true) (hp : plainOps ops = true) (hq : ¬ LetsOut Q)
    (hS : S w.drew) (h : S w.drew → wpAnyH P .any ops Q S ops.size (Array.replicate ops.size false) a w.drew) : (Code.region id ops true).wpIn (Fence.wide.inRound l) n P Q a w :=
  wpIn_region_draw fun t => by
    simp only [Region.schedule, hm, Bool.true_or, if_true]
    exact opsIn_of_ops hp hq _ _ _ (wpAny_sound ops.size t _ a _ (wpAny_of_held _ _ _ _ (h hS)))

end Go.Proofs.Ytoohnnkhklifdaa

namespace Go.Proofs.Ytoohnnkhklifdaa
open Go.RowKit Go.Shelf

set_option linter.unusedSimpArgs false
set_option linter.unusedVariables false
attribute [local go_sem] Oper.semAt_some

abbrev encSize (k : Nat) : Array Value := #[.int .i64 (k : Int), .int .i64 (Cls.sz k : Int)]

set_option maxRecDepth 100000 in
set_option maxHeartbeats 2000000 in
theorem rising_asked (n : Nat) (hn1 : 1 ≤ n) (w : World) : Asked Fence.wide n Try.prog 81 #[] encSize 29 w := by
  intro l J Jx W _ hM hY h0
  refine callsIn_of_wp Try.func81 rfl trivial ?_ rfl
  simp only [Try.ntmps81, List.size_toArray, List.length_cons, List.length_nil, Nat.reduceAdd, Nat.reduceSub, Array.replicate_succ, Array.replicate_zero, List.push_toArray, List.append_toArray, List.nil_append, List.cons_append]
  gi_wp2
  gi_loopw [2, 3] (fun pl po wr => ∃ j q : Nat, Hid (q = 2 ^ j) ∧ pl = .int .i64 (2 * (j : Int)) ∧ po = .int .i64 q ∧ J (2 * j) wr) (fun pl _ _ => 29 - (intOf pl).toNat)
  case atStart => exact ⟨0, 1, Lib.hid rfl, rfl, rfl, h0⟩
  case round =>
    obtain ⟨j, q, Hq, rfl, rfl, hJ⟩ := hrel
    have hj := hM _ _ hJ
    have hp := Cls.pow_le (j := j) (by omega)
    rw [← Hq.out] at hp
    have he := Lib.hid (Cls.sz_even j)
    have ho := Lib.hid (Cls.sz_odd j)
    rw [← Hq.out] at he ho
    obtain ⟨fn, tmps, assign, body, hy, hR⟩ := hY _ _ hJ
    dsimp only [encSize] at hy
    rw [he.out, show ((2 * j : Nat) : Int) = 2 * (j : Int) from by omega, show ((4 * q : Nat) : Int) = 4 * (q : Int) from by omega] at hy
    gi_wp2
    refine hR.mono ?_
    clear hR hy
    rintro e V1 (⟨rfl, hJ1⟩ | ⟨rfl, hJx⟩)
    · have hj1 := hM _ _ hJ1
      obtain ⟨fn, tmps, assign, body, hy, hR⟩ := hY _ _ hJ1
      dsimp only [encSize] at hy
      rw [ho.out, show ((2 * j + 1 : Nat) : Int) = 2 * (j : Int) + 1 from by omega, show ((6 * q : Nat) : Int) = 6 * (q : Int) from by omega] at hy
      gi_wp2
      refine hR.mono ?_
      clear hR hy
      rintro e V2 (⟨rfl, hJ2⟩ | ⟨rfl, hJx⟩)
      · gi_wp2
        refine ⟨⟨j + 1, q * 2, ?_, ?_, ?_, hJ2⟩, ?_⟩
        · exact Lib.hid (by rw [Nat.pow_succ, Hq.out])
        · go_num
        · go_num
        · simp [intOf]; omega
      · gi_wp2
        refine bodyPost_ret (results_none rfl _ _ _) rfl ?_
        exact ⟨⟨_, rfl⟩, _, hJx⟩
    · gi_wp2
      refine ⟨fun f hf => (nomatch hf), ?_⟩
      gi_wp2
      refine bodyPost_ret (results_none rfl _ _ _) rfl ?_
      exact ⟨⟨_, rfl⟩, _, hJx⟩

theorem rising_any (n : Nat) (w : World) : CallsIn Fence.wide n Try.prog 75 #[] w fun e w' => e = .returned (.func (.func 81) #[] #[]) ∧ w' = w := by
  refine callsIn_of_wp Try.func75 rfl trivial ?_ rfl
  simp only [Try.ntmps75, List.size_toArray, List.length_cons, List.length_nil, Nat.reduceAdd, Nat.reduceSub, Array.replicate_succ, Array.replicate_zero, List.push_toArray, List.append_toArray, List.nil_append, List.cons_append]
  gi_wp2
  go_ret
  exact ⟨rfl, rfl⟩

/-- The four boxes of a call of least, each by itself. -/
def boxes (w : World) (n : Int) : World := (((w.alloc (.cells #[.int .i64 n] 3)).alloc (.cells #[.int .i64 0] 3)).alloc (.cells #[.int .i64 0] 3)).alloc (.cells #[.bool false] 4)
theorem boxes_is (w : World) (n : Int) : Boxed (boxes w n) w.heap.size 3 (.int .i64 n) ∧ Boxed (boxes w n) (w.heap.size + 1) 3 (.int .i64 0) ∧ Boxed (boxes w n) (w.heap.size + 1 + 1) 3 (.int .i64 0) ∧
    Boxed (boxes w n) (w.heap.size + 1 + 1 + 1) 4 (.bool false) ∧ Below w.heap.size w (boxes w n) ∧ (boxes w n).heap.size = w.heap.size + 4 := by
  have b0 := (((Boxed.new w 3 (.int .i64 n)).alloc (.cells #[.int .i64 0] 3)).alloc (.cells #[.int .i64 0] 3)).alloc (.cells #[.bool false] 4)
  have b1 := ((Boxed.new (w.alloc (.cells #[.int .i64 n] 3)) 3 (.int .i64 0)).alloc (.cells #[.int .i64 0] 3)).alloc (.cells #[.bool false] 4)
  have b2 := (Boxed.new ((w.alloc (.cells #[.int .i64 n] 3)).alloc (.cells #[.int .i64 0] 3)) 3 (.int .i64 0)).alloc (.cells #[.bool false] 4)
  have b3 := Boxed.new (((w.alloc (.cells #[.int .i64 n] 3)).alloc (.cells #[.int .i64 0] 3)).alloc (.cells #[.int .i64 0] 3)) 4 (.bool false)
  simp only [World.size_alloc] at b0 b1 b2 b3
  exact ⟨b0, b1, b2, b3, ((((Below.refl _ w).alloc (Nat.le_refl _) _).alloc (by simp) _).alloc (by simp; omega) _).alloc (by simp; omega) _, by simp [boxes]⟩

set_option maxRecDepth 100000 in
set_option maxHeartbeats 4000000 in
theorem least_out (n : Int) (i0 : -9223372036854775808 ≤ n) (i1 : n ≤ 9223372036854775807) (ho : n < 1 ∨ 65536 < n) (w : World) :
    Calls Try.prog 61 #[.int .i64 n] w fun e w' => e = .returned (.tuple #[.int .i64 0, .int .i64 0, .bool false]) ∧ Below w.heap.size w w' := by
  refine (callsIn_wide (n := 9)).1 ?_
  refine callsIn_of_wp_marks Try.func61 rfl trivial ?_ rfl
  simp only [Try.ntmps61, List.size_toArray, List.length_cons, List.length_nil, Nat.reduceAdd, Nat.reduceSub, Array.replicate_succ, Array.replicate_zero, List.push_toArray, List.append_toArray, List.nil_append, List.cons_append]
  obtain ⟨b0, b1, b2, b3, hB, _⟩ := boxes_is w n
  have c1 := b1.cell
  have c2 := b2.cell
  have c3 := b3.cell
  by_cases h1 : n < 1
  · gi_wp2
    refine ⟨_, ?_, rfl, hB⟩
    simp [results, Try.f61, go_sem, c1, c2, c3, boxes]
  · have h2 : 65536 < n := by omega
    gi_wp2
    refine ⟨_, ?_, rfl, hB⟩
    simp [results, Try.f61, go_sem, c1, c2, c3, boxes]

set_option maxRecDepth 100000 in
set_option maxHeartbeats 4000000 in
theorem least_in (m : Nat) (m0 : 1 ≤ m) (m1 : m ≤ 65536) (w : World) :
    Calls Try.prog 61 #[.int .i64 m] w fun e w' => e = .returned (.tuple #[.int .i64 (Cls.at' m), .int .i64 (Cls.rd m), .bool true]) ∧ Below w.heap.size w w' := by
  have hfF : Fence.wide.fn 75 := trivial
  refine (callsIn_wide (n := 9)).1 ?_
  refine callsIn_of_wp_marks Try.func61 rfl trivial ?_ rfl
  simp only [Try.ntmps61, List.size_toArray, List.length_cons, List.length_nil, Nat.reduceAdd, Nat.reduceSub, Array.replicate_succ, Array.replicate_zero, List.push_toArray, List.append_toArray, List.nil_append, List.cons_append]
  have hm0 : ((m : Int) < 1) = False := by simp; omega
  have hm1 : ((65536 : Int) < m) = False := by simp; omega
  gi_wp2_with (gi_at_call 75; refine (rising_any _ _).mono ?_; rintro e w' ⟨rfl, rfl⟩)
  obtain ⟨bN, bK, bS, bO, hB0, hsz⟩ := boxes_is w m
  obtain ⟨W0, hW0⟩ : ∃ W0, boxes w m = W0 := ⟨_, rfl⟩
  rw [hW0] at bN bK bS bO hB0 hsz
  unfold boxes at hW0
  rw [hW0]
  clear hW0
  have hown : ∀ (t : TypeId) (B : Nat) (v : Value), OwnFrom W0.heap.size (fun (_ : Nat) V => Boxed V B t v) := fun t B v => Own.from (boxed_own B t (fun _ => v)) _
  refine range_asked rfl (by omega) (gf := 81) (lb := #[]) rfl trivial (enters_of Try.func81 (by kernel_rfl) rfl) (rising_asked 8 (by omega) W0) (fun _ => rfl)
    (fun k V => (∀ j, j < k → Cls.sz j < m) ∧ Boxed V w.heap.size 3 (.int .i64 m) ∧ Boxed V (w.heap.size + 1) 3 (.int .i64 0) ∧ Boxed V (w.heap.size + 1 + 1) 3 (.int .i64 0) ∧ Boxed V (w.heap.size + 1 + 1 + 1) 4 (.bool false) ∧ Below w.heap.size W0 V)
    (fun c k V => (c = .ret ∧ k = Cls.at' m) ∧ Boxed V (w.heap.size + 1) 3 (.int .i64 (Cls.at' m)) ∧ Boxed V (w.heap.size + 1 + 1) 3 (.int .i64 (Cls.rd m)) ∧ Boxed V (w.heap.size + 1 + 1 + 1) 4 (.bool true) ∧ Below w.heap.size W0 V)
    ((ownFrom_pure _ _).and ((hown _ _ _).and ((hown _ _ _).and ((hown _ _ _).and ((hown _ _ _).and (ownFrom_below (by omega) (by omega)))))))
    (fun c => (ownFrom_pure _ (fun k => c = .ret ∧ k = Cls.at' m)).and ((hown _ _ _).and ((hown _ _ _).and ((hown _ _ _).and (ownFrom_below (by omega) (by omega))))))
    ?bound ⟨fun j hj => by omega, bN, bK, bS, bO, Below.refl _ _⟩
    (fun k => { tmps := #[.int .i64 m, .pointer (some ⟨w.heap.size, 0, none⟩), .pointer (some ⟨w.heap.size + 1, 0, none⟩), .pointer (some ⟨w.heap.size + 1 + 1, 0, none⟩), .pointer (some ⟨w.heap.size + 1 + 1 + 1, 0, none⟩), .int .i64 k, .int .i64 (Cls.sz k), .int .i64 m, .bool false, .bool false, .int .i64 m, .bool false, .bool false,
      .func (.func 81) #[] #[], .int .i64 k, .int .i64 (Cls.sz k), undef, undef, undef, undef, undef], defers := [] })
    ?assign ?body ?stop
  case bound =>
    rintro k V ⟨hk, _⟩
    by_cases e : k < 29
    · exact e
    · have := hk 28 (by omega)
      rw [Cls.sz_28] at this; omega
  case assign =>
    rintro l k V K hI hK
    gi_wp2
    exact hK
  case body =>
    rintro l k V hl ⟨hk, cN, cK, cS, cO, hB⟩
    have hsV := hB.size
    have f0 := cK.frozen
    have f1 := cS.frozen
    have f2 := cO.frozen
    have a0 := cN.cell
    have a1 := cK.cell
    have a2 := cS.cell
    have a3 := cO.cell
    by_cases hx : m ≤ Cls.sz k
    · have hx' : ((m : Int) ≤ (Cls.sz k : Int)) = True := by simp; omega
      have hat : Cls.at' m = k := Cls.at_eq m1 hx hk
      have hrd : Cls.rd m = Cls.sz k := by unfold Cls.rd; rw [hat]
      have Hat := Lib.hid hat
      have Hrd := Lib.hid hrd
      clear hat hrd hx hk
      gi_wp2
      rw [show (Value.int .i64 (k : Int)) = .int .i64 (Cls.at' m : Nat) from by rw [Hat.out], show (Value.int .i64 (Cls.sz k : Int)) = .int .i64 (Cls.rd m : Nat) from by rw [Hrd.out]]
      exact ⟨((KeepsOthers.setCell _ _ _).from _).trans (((KeepsOthers.setCell _ _ _).from _).trans ((KeepsOthers.setCell _ _ _).from _)), ⟨rfl, Hat.out.symm⟩,
        ((cK.set _).other (by omega) _).other (by omega) _, ((cS.other (by omega) _).set _).other (by omega) _, ((cO.other (by omega) _).other (by omega) _).set _,
        ((hB.setCell (p := ⟨w.heap.size + 1, 0, none⟩) (by simp) _).setCell (p := ⟨w.heap.size + 1 + 1, 0, none⟩) (by simp; omega) _).setCell (p := ⟨w.heap.size + 1 + 1 + 1, 0, none⟩) (by simp; omega) _⟩
    · have hx' : ((m : Int) ≤ (Cls.sz k : Int)) = False := by simp; omega
      gi_wp2
      refine ⟨KeepsFrom.refl _ _, fun j hj => ?_, cN, cK, cS, cO, hB⟩
      by_cases e : j = k
      · rw [e]; omega
      · exact hk j (by omega)
  case stop =>
    rintro D c k V hD ⟨⟨rfl, hk⟩, cK, cS, cO, hB⟩ hDD
    have hsV := hB.size
    gi_wp2
    have d1 := (cK.kept (grownBy_putObj' V D (.deferred none)) (fun e => by injection e; omega)).cell
    have d2 := (cS.kept (grownBy_putObj' V D (.deferred none)) (fun e => by injection e; omega)).cell
    have d3 := (cO.kept (grownBy_putObj' V D (.deferred none)) (fun e => by injection e; omega)).cell
    refine ⟨by simp, .inl ⟨_, _, rfl, run_takeDeferred hDD, ?_⟩⟩
    refine ⟨_, ?_, rfl, (hB0.trans hB).trans (belowK_b (w := w) (Nat.le_refl _) V D _ _ (by omega) hDD rfl rfl)⟩
    simp [results, Try.f61, go_sem, d1, d2, d3]

/-- Whether n has a class. -/
def okN (n : Int) : Bool := decide (1 ≤ n ∧ n ≤ 65536)
theorem okN_of {n : Int} (h0 : 1 ≤ n) (h1 : n ≤ 65536) : okN n = true := decide_eq_true ⟨h0, h1⟩
def placeN (n : Int) : Nat := if okN n then Cls.at' n.toNat else 0
def roundN (n : Int) : Nat := if okN n then Cls.rd n.toNat else 0
theorem placeN_of {m : Nat} (h0 : 1 ≤ m) (h1 : m ≤ 65536) : placeN m = Cls.at' m := by unfold placeN; rw [if_pos (okN_of (by omega) (by omega))]; rfl
theorem roundN_of {m : Nat} (h0 : 1 ≤ m) (h1 : m ≤ 65536) : roundN m = Cls.rd m := by unfold roundN; rw [if_pos (okN_of (by omega) (by omega))]; rfl

theorem least_any (n : Int) (i0 : -9223372036854775808 ≤ n) (i1 : n ≤ 9223372036854775807) (w : World) :
    Calls Try.prog 61 #[.int .i64 n] w fun e w' => e = .returned (.tuple #[.int .i64 (placeN n), .int .i64 (roundN n), .bool (okN n)]) ∧ Below w.heap.size w w' := by
  by_cases h : 1 ≤ n ∧ n ≤ 65536
  · obtain ⟨m, rfl⟩ : ∃ m : Nat, n = m := ⟨n.toNat, by omega⟩
    rw [placeN_of (by omega) (by omega), roundN_of (by omega) (by omega), okN_of h.1 h.2]
    exact least_in m (by omega) (by omega) w
  · have ho : okN n = false := decide_eq_false h
    unfold placeN roundN
    rw [ho]
    exact least_out n i0 i1 (by omega) w

set_option maxRecDepth 100000 in
theorem round_any (n : Int) (i0 : -9223372036854775808 ≤ n) (i1 : n ≤ 9223372036854775807) (w : World) :
    Calls Try.prog 38 #[.int .i64 n] w fun e w' => e = .returned (.tuple #[.int .i64 (roundN n), .bool (okN n)]) ∧ Below w.heap.size w w' := by
  go_enter Try.func38, Try.ntmps38
  go_wp2_with (refine (least_any _ i0 i1 _).mono ?_; rintro e x ⟨rfl, hB⟩)
  exact bodyPost_ret (v := .tuple #[.int .i64 (roundN n), .bool (okN n)]) (by simp [results, Try.f38, go_sem]) rfl ⟨rfl, hB⟩


end Go.Proofs.Ytoohnnkhklifdaa

namespace Go.Proofs.Ytoohnnkhklifdaa
open Go.RowKit

def pickOf (c n : Int) : Int := if c < 0 then (-(c + 1)) % n else c % n
theorem pick_bounds (c n : Int) (hn : 0 < n) : 0 ≤ pickOf c n ∧ pickOf c n < n := by
  unfold pickOf
  split
  · exact ⟨Int.emod_nonneg _ (by omega), Int.emod_lt_of_pos _ hn⟩
  · exact ⟨Int.emod_nonneg _ (by omega), Int.emod_lt_of_pos _ hn⟩
theorem pick_any (c n : Int) (w : World) (h0 : -9223372036854775808 ≤ c) (h1 : c ≤ 9223372036854775807) (h2 : 0 < n) (h3 : n ≤ 9223372036854775807) :
    Calls Try.prog 10 #[.int .i64 c, .int .i64 n] w fun e w' => e = .returned (.int .i64 (pickOf c n)) ∧ w = w' := by
  by_cases h : c < 0
  · have hv : Hid (Int.tmod (-(c + 1)) n = pickOf c n) := Lib.hid (by unfold pickOf; rw [if_pos h, Int.tmod_eq_emod_of_nonneg (by omega)])
    have hd : 0 ≤ -(c + 1) := by omega
    go_enter Try.func10, Try.ntmps10
    go_wp2
    go_ret
    refine ⟨?_, rfl⟩
    rw [← hv.out, Int.neg_tmod]
    rfl
  · have hv : Hid (c % n = pickOf c n) := Lib.hid (by unfold pickOf; rw [if_neg h])
    go_enter Try.func10, Try.ntmps10
    go_wp2
    go_ret
    exact ⟨by rw [← hv.out]; rfl, rfl⟩

/-- A number picked, under a name: from 0 on, below n. -/
theorem pick_nat (c : Int) (n : Nat) (w : World) (h0 : -9223372036854775808 ≤ c) (h1 : c ≤ 9223372036854775807) (h2 : 0 < n) (h3 : (n : Int) ≤ 9223372036854775807) :
    Calls Try.prog 10 #[.int .i64 c, .int .i64 n] w fun e w' => ∃ k : Nat, k < n ∧ e = .returned (.int .i64 k) ∧ w = w' := by
  have p := pick_bounds c n (by omega)
  refine (pick_any c n w h0 h1 (by omega) h3).mono ?_
  rintro e w' ⟨rfl, rfl⟩
  exact ⟨(pickOf c n).toNat, by omega, by rw [Int.toNat_of_nonneg p.1], rfl⟩

end Go.Proofs.Ytoohnnkhklifdaa

namespace Go.Proofs.Ytoohnnkhklifdaa
open Go.RowKit Go.Shelf

set_option linter.unusedSimpArgs false
set_option linter.unusedVariables false

/-- A space that may be: its base, size and top. -/
structure SpOk (b z t : Nat) : Prop where
  base : b ≤ 65536
  size : z ≤ 65536
  low : b ≤ t
  high : t ≤ b + z

abbrev spV (b z t : Nat) : Value := .agg #[.int .i64 b, .int .i64 z, .int .i64 t]

set_option maxHeartbeats 1000000 in
theorem nearest_ok (b z t : Nat) (h : SpOk b z t) (w : World) :
    Calls Try.prog 59 #[spV b z t] w fun e w' => e = .returned (spV b z t) ∧ Below w.heap.size w w' := by
  obtain ⟨h1, h2, h3, h4⟩ := h
  have m1 : ((65536 : Int) < (b : Int)) = False := by simp; omega
  have m2 : ((65536 : Int) < (z : Int)) = False := by simp; omega
  have m3 : ((t : Int) < (b : Int)) = False := by simp; omega
  have m4 : ((b : Int) + (z : Int) < (t : Int)) = False := by simp; omega
  go_enter Try.func59, Try.ntmps59
  go_wp2
  all_goals
    refine bodyPost_ret (v := spV b z t) ?_ rfl ⟨rfl, ((Below.refl _ w).alloc (Nat.le_refl _) _).alloc (by simp) _⟩
    simp [results, Try.f59, go_sem]
    try omega

/-- Three cells that lie in block k, behind w. -/
abbrev At3 (w x : World) (k : Nat) (v0 v1 v2 : Value) : Prop :=
  x.cell? ⟨k, 0, none⟩ = some v0 ∧ x.cell? ⟨k, 1, none⟩ = some v1 ∧ x.cell? ⟨k, 2, none⟩ = some v2 ∧ w.heap.size ≤ x.heap.size ∧ k < x.heap.size ∧ Below w.heap.size w x
/-- A space that lies in block k, behind w. -/
abbrev SpAt (w x : World) (k b z t : Nat) : Prop := At3 w x k (.int .i64 b) (.int .i64 z) (.int .i64 t)

theorem keepSp {w x y : World} {k : Nat} {v0 v1 v2 : Value} (h : At3 w x k v0 v1 v2) (hb : Below x.heap.size x y) : At3 w y k v0 v1 v2 :=
  ⟨(hb.cell (p := ⟨k, 0, none⟩) h.2.2.2.2.1).trans h.1, (hb.cell (p := ⟨k, 1, none⟩) h.2.2.2.2.1).trans h.2.1, (hb.cell (p := ⟨k, 2, none⟩) h.2.2.2.2.1).trans h.2.2.1,
    Nat.le_trans h.2.2.2.1 hb.size, Nat.lt_of_lt_of_le h.2.2.2.2.1 hb.size, h.2.2.2.2.2.trans (hb.mono h.2.2.2.1)⟩
theorem newSp (w : World) (b z t : Nat) (ty : TypeId) : SpAt w (w.alloc (.cells #[.int .i64 b, .int .i64 z, .int .i64 t] ty)) w.heap.size b z t :=
  ⟨by simp, by simp, by simp, by simp, by simp, (Below.refl _ _).alloc (Nat.le_refl _) _⟩

set_option maxHeartbeats 1000000 in
theorem right_ok (b z t : Nat) (h : SpOk b z t) (w : World) :
    Calls Try.prog 36 #[spV b z t] w fun e w' => e = .returned (.bool true) ∧ Below w.heap.size w w' := by
  go_enter Try.func36, Try.ntmps36
  go_wp2
  have h0 := newSp w b z t 47
  go_region_held3 (fun x => SpAt w x w.heap.size b z t) (first | exact ⟨h0.1, h0.2.1, h0.2.2.1, h0.2.2.2.1, h0.2.2.2.2.1, h0.2.2.2.2.2.drew⟩ | exact keepSp (by assumption) hb2)
    (first | (go_at_call 59; refine (nearest_ok _ _ _ h _).mono ?_; rintro e w2 ⟨rfl, hb2⟩))
  go_wp2
  go_ret
  exact ⟨rfl, (‹SpAt w _ _ _ _ _›).2.2.2.2.2⟩

theorem used_ok (b z t : Nat) (h : SpOk b z t) (w : World) :
    Calls Try.prog 24 #[spV b z t] w fun e w' => e = .returned (.int .i64 ((t - b : Nat) : Int)) ∧ Below w.heap.size w w' := by
  have h3 := h.low
  have h1 := h.base
  have h2 := h.high
  have h4 := h.size
  go_enter Try.func24, Try.ntmps24
  go_wp2_with fail
  refine (right_ok _ _ _ h _).mono ?_
  rintro e x ⟨rfl, hb⟩
  obtain ⟨c0, c1, c2, hs, hk, hB⟩ := keepSp (newSp w b z t 47) (by simpa using hb)
  clear hb
  go_wp2
  go_ret
  exact ⟨by rw [show ((t - b : Nat) : Int) = (t : Int) - (b : Int) from by omega]; rfl, hB⟩

theorem left_ok (b z t : Nat) (h : SpOk b z t) (w : World) :
    Calls Try.prog 28 #[spV b z t] w fun e w' => e = .returned (.int .i64 ((b + z - t : Nat) : Int)) ∧ Below w.heap.size w w' := by
  have h3 := h.low
  have h1 := h.base
  have h2 := h.high
  have h4 := h.size
  go_enter Try.func28, Try.ntmps28
  go_wp2_with fail
  refine (right_ok _ _ _ h _).mono ?_
  rintro e x ⟨rfl, hb⟩
  obtain ⟨c0, c1, c2, hs, hk, hB⟩ := keepSp (newSp w b z t 47) (by simpa using hb)
  clear hb
  have hu := used_ok b z t h
  obtain ⟨u, e⟩ : ∃ u, t - b = u := ⟨_, rfl⟩
  rw [e] at hu
  have hr : Hid (((b + z - t : Nat) : Int) = (z : Int) - (u : Int)) := Lib.hid (by omega)
  have u1 : u ≤ z := by omega
  clear e
  have hw : IntKind.i64.wrap ((z : Int) - (u : Int)) = (z : Int) - (u : Int) := IntWalk.i64_in _ (by omega)
  go_wp2_with fail
  go_region_held3 (fun x => SpAt w x w.heap.size b z t) (first | exact ⟨c0, c1, c2, hs, hk, hB.drew⟩ | exact keepSp (by assumption) hb2)
    (first | (go_at_call 24; refine (hu _).mono ?_; rintro e w2 ⟨rfl, hb2⟩))
  go_wp2
  go_ret
  exact ⟨by rw [hr.out]; rfl, (‹SpAt w _ _ _ _ _›).2.2.2.2.2⟩


/-- What a block of three cells gives a walk. -/
theorem blk3 {x : World} {k : Nat} {v0 v1 v2 : Value} {ty : TypeId} (h : BlkIs x k #[v0, v1, v2] ty) :
    (x.cell? ⟨k, 0, none⟩ = some v0 ∧ x.cell? ⟨k, 1, none⟩ = some v1 ∧ x.cell? ⟨k, 2, none⟩ = some v2) ∧ x.frozen? ⟨k, 0, none⟩ = false ∧ x.frozen? ⟨k, 1, none⟩ = false ∧ x.frozen? ⟨k, 2, none⟩ = false :=
  ⟨⟨h.cell 0, h.cell 1, h.cell 2⟩, h.free 0, h.free 1, h.free 2⟩
theorem At3.of {x : World} {k : Nat} {v0 v1 v2 : Value} {ty : TypeId} (h : BlkIs x k #[v0, v1, v2] ty) : At3 x x k v0 v1 v2 :=
  ⟨h.cell 0, h.cell 1, h.cell 2, Nat.le_refl _, h.lt, Below.refl _ _⟩

/-- Two boxes of a call, one behind the other. -/
def twoBoxes (w : World) (a b : Array Value) : World := (w.alloc (.cells a 47)).alloc (.cells b 47)
structure TwoAt (w x : World) (a b : Array Value) : Prop where
  k1 : BlkIs x w.heap.size a 47
  k2 : BlkIs x (w.heap.size + 1) b 47
  below : Below w.heap.size w x
theorem TwoAt.new (w : World) (a b : Array Value) : TwoAt w ((w.alloc (.cells a 47)).alloc (.cells b 47)) a b :=
  ⟨(BlkIs.new w a _).alloc _, by have h := BlkIs.new (w.alloc (.cells a 47)) b 47; rwa [World.size_alloc] at h, ((Below.refl _ w).alloc (Nat.le_refl _) _).alloc (by simp) _⟩
theorem TwoAt.keep {w x y : World} {a b : Array Value} (h : TwoAt w x a b) (hb : Below x.heap.size x y) : TwoAt w y a b := by
  have s1 := h.k1.lt
  exact ⟨h.k1.below hb s1, h.k2.below hb h.k2.lt, h.below.trans (hb.mono (by omega))⟩
theorem TwoAt.drew {w x : World} {a b : Array Value} (h : TwoAt w x a b) : TwoAt w x.drew a b := ⟨h.k1, h.k2, h.below.drew⟩
theorem TwoAt.set1 {w x : World} {a b : Array Value} (h : TwoAt w x a b) (i : Nat) (u : Value) : TwoAt w (x.setCell ⟨w.heap.size, i, none⟩ u) (a.setIfInBounds i u) b :=
  ⟨h.k1.set i u, h.k2.far (by simp) u, h.below.setCell (by simp) u⟩
theorem TwoAt.set2 {w x : World} {a b : Array Value} (h : TwoAt w x a b) (i : Nat) (u : Value) : TwoAt w (x.setCell ⟨w.heap.size + 1, i, none⟩ u) a (b.setIfInBounds i u) :=
  ⟨h.k1.far (by simp) u, h.k2.set i u, h.below.setCell (by simp) u⟩
theorem TwoAt.facts {w x : World} {a0 a1 a2 b0 b1 b2 : Value} (h : TwoAt w x #[a0, a1, a2] #[b0, b1, b2]) :
    (x.cell? ⟨w.heap.size, 0, none⟩ = some a0 ∧ x.cell? ⟨w.heap.size, 1, none⟩ = some a1 ∧ x.cell? ⟨w.heap.size, 2, none⟩ = some a2 ∧
    x.cell? ⟨w.heap.size + 1, 0, none⟩ = some b0 ∧ x.cell? ⟨w.heap.size + 1, 1, none⟩ = some b1 ∧ x.cell? ⟨w.heap.size + 1, 2, none⟩ = some b2) ∧
    x.frozen? ⟨w.heap.size, 0, none⟩ = false ∧ x.frozen? ⟨w.heap.size, 1, none⟩ = false ∧ x.frozen? ⟨w.heap.size, 2, none⟩ = false ∧
    x.frozen? ⟨w.heap.size + 1, 0, none⟩ = false ∧ x.frozen? ⟨w.heap.size + 1, 1, none⟩ = false ∧ x.frozen? ⟨w.heap.size + 1, 2, none⟩ = false :=
  ⟨⟨h.k1.cell 0, h.k1.cell 1, h.k1.cell 2, h.k2.cell 0, h.k2.cell 1, h.k2.cell 2⟩, h.k1.free 0, h.k1.free 1, h.k1.free 2, h.k2.free 0, h.k2.free 1, h.k2.free 2⟩

set_option maxHeartbeats 1000000 in
theorem empty_ok (b z t : Nat) (h : SpOk b z t) (w : World) :
    Calls Try.prog 35 #[spV b z t] w fun e w' => e = .returned (spV b z b) ∧ Below w.heap.size w w' := by
  go_enter Try.func35, Try.ntmps35
  go_wp2_with fail
  refine (right_ok _ _ _ h _).mono ?_
  rintro e x ⟨rfl, hb⟩
  have hT := (TwoAt.new w #[.int .i64 b, .int .i64 z, .int .i64 t] #[.int .i64 0, .int .i64 0, .int .i64 0]).keep hb
  clear hb
  obtain ⟨⟨c0, c1, c2, d0, d1, d2⟩, f0, f1, f2, g0, g1, g2⟩ := hT.facts
  go_wp2
  have hE := (((hT.set1 2 (.int .i64 b)).set2 0 (.int .i64 b)).set2 1 (.int .i64 z)).set2 2 (.int .i64 b)
  obtain ⟨⟨_, _, _, e0, e1, e2⟩, _⟩ := hE.facts
  refine bodyPost_ret (v := spV b z b) ?_ rfl ⟨rfl, hE.below⟩
  simp [results, Try.f35, go_sem, e0, e1, e2]

set_option maxHeartbeats 1000000 in
theorem make_ok (b z : Nat) (h : SpOk b z b) (w : World) :
    Calls Try.prog 17 #[.int .i64 b, .int .i64 z] w fun e w' => e = .returned (.tuple #[spV b z b, .bool true]) ∧ Below w.heap.size w w' := by
  go_enter Try.func17, Try.ntmps17
  go_wp2_with fail
  refine (right_ok _ _ _ h _).mono ?_
  rintro e x ⟨rfl, hb⟩
  have hT := (TwoAt.new w #[.int .i64 0, .int .i64 0, .int .i64 0] #[.int .i64 b, .int .i64 z, .int .i64 b]).keep hb
  clear hb
  obtain ⟨⟨c0, c1, c2, d0, d1, d2⟩, f0, f1, f2, g0, g1, g2⟩ := hT.facts
  go_wp2
  have hE := (((hT.set1 0 (.int .i64 b)).set1 1 (.int .i64 z)).set1 2 (.int .i64 b))
  obtain ⟨⟨e0, e1, e2, _⟩, _⟩ := hE.facts
  refine bodyPost_ret (v := .tuple #[spV b z b, .bool true]) ?_ rfl ⟨rfl, hE.below⟩
  simp [results, Try.f17, go_sem, e0, e1, e2]

set_option maxHeartbeats 2000000 in
theorem take_yes (b z t n : Nat) (h : SpOk b z t) (n0 : 1 ≤ n) (n1 : n ≤ 65536) (hr : t + Cls.rd n ≤ b + z) (w : World) :
    Calls Try.prog 19 #[spV b z t, .int .i64 n] w fun e w' => e = .returned (.tuple #[spV b z (t + Cls.rd n), .int .i64 t, .bool true]) ∧ Below w.heap.size w w' := by
  have h3 := h.low
  have h1 := h.base
  have h2 := h.high
  have h4 := h.size
  have hR := round_any (n : Int) (by omega) (by omega)
  rw [roundN_of n0 n1, okN_of (by omega) (by omega)] at hR
  have hL := left_ok b z t h
  obtain ⟨l, hl⟩ : ∃ l, b + z - t = l := ⟨_, rfl⟩
  rw [hl] at hL
  generalize Cls.rd n = r at *
  have hlt : ((l : Int) < (r : Int)) = False := by simp; omega
  clear hl
  have hw : IntKind.i64.wrap ((t : Int) + (r : Int)) = (t : Int) + (r : Int) := IntWalk.i64_in _ (by omega)
  go_enter Try.func19, Try.ntmps19
  go_wp2_with fail
  refine (hR _).mono ?_
  rintro e x ⟨rfl, hb⟩
  have hT := (TwoAt.new w #[.int .i64 b, .int .i64 z, .int .i64 t] #[.int .i64 0, .int .i64 0, .int .i64 0]).keep hb
  clear hb
  obtain ⟨⟨c0, c1, c2, d0, d1, d2⟩, f0, f1, f2, g0, g1, g2⟩ := hT.facts
  go_wp2_with fail
  refine (hL _).mono ?_
  rintro e y ⟨rfl, hb⟩
  replace hT := hT.keep hb
  clear hb c0 c1 c2 d0 d1 d2 f0 f1 f2 g0 g1 g2
  obtain ⟨⟨c0, c1, c2, d0, d1, d2⟩, f0, f1, f2, g0, g1, g2⟩ := hT.facts
  go_wp2
  have hE := (((hT.set1 2 (.int .i64 ((t : Int) + r))).set2 0 (.int .i64 b)).set2 1 (.int .i64 z)).set2 2 (.int .i64 ((t : Int) + r))
  obtain ⟨⟨_, _, _, e0, e1, e2⟩, _⟩ := hE.facts
  refine bodyPost_ret (v := .tuple #[spV b z (t + r), .int .i64 t, .bool true]) ?_ rfl ⟨rfl, hE.below⟩
  simp [results, Try.f19, go_sem, e0, e1, e2]

set_option maxHeartbeats 2000000 in
theorem take_full (b z t n : Nat) (h : SpOk b z t) (n0 : 1 ≤ n) (n1 : n ≤ 65536) (hr : b + z < t + Cls.rd n) (w : World) :
    Calls Try.prog 19 #[spV b z t, .int .i64 n] w fun e w' => e = .returned (.tuple #[spV b z t, .int .i64 0, .bool false]) ∧ Below w.heap.size w w' := by
  have h3 := h.low
  have h1 := h.base
  have h2 := h.high
  have h4 := h.size
  have hR := round_any (n : Int) (by omega) (by omega)
  rw [roundN_of n0 n1, okN_of (by omega) (by omega)] at hR
  have hL := left_ok b z t h
  obtain ⟨l, hl⟩ : ∃ l, b + z - t = l := ⟨_, rfl⟩
  rw [hl] at hL
  generalize Cls.rd n = r at *
  have hlt : ((l : Int) < (r : Int)) = True := by simp; omega
  clear hl
  go_enter Try.func19, Try.ntmps19
  go_wp2_with fail
  refine (hR _).mono ?_
  rintro e x ⟨rfl, hb⟩
  have hT := (TwoAt.new w #[.int .i64 b, .int .i64 z, .int .i64 t] #[.int .i64 0, .int .i64 0, .int .i64 0]).keep hb
  clear hb
  obtain ⟨⟨c0, c1, c2, d0, d1, d2⟩, f0, f1, f2, g0, g1, g2⟩ := hT.facts
  go_wp2_with fail
  refine (hL _).mono ?_
  rintro e y ⟨rfl, hb⟩
  replace hT := hT.keep hb
  clear hb c0 c1 c2 d0 d1 d2 f0 f1 f2 g0 g1 g2
  obtain ⟨⟨c0, c1, c2, d0, d1, d2⟩, f0, f1, f2, g0, g1, g2⟩ := hT.facts
  go_wp2
  have hE := ((hT.set2 0 (.int .i64 b)).set2 1 (.int .i64 z)).set2 2 (.int .i64 t)
  obtain ⟨⟨_, _, _, e0, e1, e2⟩, _⟩ := hE.facts
  refine bodyPost_ret (v := .tuple #[spV b z t, .int .i64 0, .bool false]) ?_ rfl ⟨rfl, hE.below⟩
  simp [results, Try.f19, go_sem, e0, e1, e2]

set_option maxHeartbeats 2000000 in
theorem take_none (b z t : Nat) (n : Int) (i0 : -9223372036854775808 ≤ n) (i1 : n ≤ 9223372036854775807) (hn : n < 1 ∨ 65536 < n) (h : SpOk b z t) (w : World) :
    Calls Try.prog 19 #[spV b z t, .int .i64 n] w fun e w' => e = .returned (.tuple #[spV b z t, .int .i64 0, .bool false]) ∧ Below w.heap.size w w' := by
  have hR := round_any n i0 i1
  rw [show okN n = false from decide_eq_false (by omega)] at hR
  generalize roundN n = r at *
  go_enter Try.func19, Try.ntmps19
  go_wp2_with fail
  refine (hR _).mono ?_
  rintro e x ⟨rfl, hb⟩
  have hT := (TwoAt.new w #[.int .i64 b, .int .i64 z, .int .i64 t] #[.int .i64 0, .int .i64 0, .int .i64 0]).keep hb
  clear hb
  obtain ⟨⟨c0, c1, c2, d0, d1, d2⟩, f0, f1, f2, g0, g1, g2⟩ := hT.facts
  go_wp2
  have hE := ((hT.set2 0 (.int .i64 b)).set2 1 (.int .i64 z)).set2 2 (.int .i64 t)
  obtain ⟨⟨_, _, _, e0, e1, e2⟩, _⟩ := hE.facts
  refine bodyPost_ret (v := .tuple #[spV b z t, .int .i64 0, .bool false]) ?_ rfl ⟨rfl, hE.below⟩
  simp [results, Try.f19, go_sem, e0, e1, e2]

end Go.Proofs.Ytoohnnkhklifdaa
