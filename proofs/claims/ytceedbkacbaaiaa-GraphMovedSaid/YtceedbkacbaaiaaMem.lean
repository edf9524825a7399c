/- Memory, plainly: which blocks a step may turn ('Chg'), a block that is known whole, a row of words, lists that are laid over. No condition. -/
import Derived.WalkKit
import Derived.ProofKit
import Derived.Below
import Derived.OneCell
import Derived.Laws.CopyRow
import Derived.Laws.CopyOwn
import Derived.Laws.AppendOwn
import Derived.Laws.MakeOwn
import Derived.Lib.Hide
import Derived.Deep.Draws
namespace Go.Proofs.Ytceedbkacbaaiaa
open Go.RowKit

/-- From a to b only the blocks of S, and new ones, have turned. -/
structure Chg (S : Nat → Prop) (a b : World) : Prop where
  os : b.os = a.os
  tape : b.tape = a.tape
  output : b.output = a.output
  size : a.heap.size ≤ b.heap.size
  block : ∀ k, k < a.heap.size → ¬ S k → b.heap[k]? = a.heap[k]?

/-- Block b of w is just these cells, none of them frozen. -/
def BlkIs (w : World) (b : Nat) (cs : Array Value) (t : TypeId) : Prop := w.heap[b]? = some (.cells cs t (0, 0))

section
variable {S T : Nat → Prop} {a b c w : World} {k n : Nat} {cs : Array Value} {t : TypeId}

theorem Chg.refl (S : Nat → Prop) (w : World) : Chg S w w := ⟨rfl, rfl, rfl, Nat.le_refl _, fun _ _ _ => rfl⟩
theorem Chg.trans (h : Chg S a b) (g : Chg S b c) : Chg S a c :=
  ⟨g.os.trans h.os, g.tape.trans h.tape, g.output.trans h.output, Nat.le_trans h.size g.size, fun k hk hs => (g.block k (Nat.lt_of_lt_of_le hk h.size) hs).trans (h.block k hk hs)⟩
theorem Chg.mono (h : Chg S a b) (hs : ∀ k, S k → T k) : Chg T a b := ⟨h.os, h.tape, h.output, h.size, fun k hk ht => h.block k hk fun e => ht (hs k e)⟩
/-- One step that may turn a block that is new since w. -/
theorem Chg.step (h : Chg S w a) (g : Chg T a b) (hs : ∀ k, T k → S k ∨ w.heap.size ≤ k) : Chg S w b :=
  ⟨g.os.trans h.os, g.tape.trans h.tape, g.output.trans h.output, Nat.le_trans h.size g.size, fun k hk ht =>
    (g.block k (Nat.lt_of_lt_of_le hk h.size) fun e => (hs k e).elim ht fun e' => absurd e' (by omega)).trans (h.block k hk ht)⟩
theorem Chg.alloc (h : Chg S w a) (o : Obj) : Chg S w (a.alloc o) :=
  h.trans ⟨rfl, rfl, rfl, by simp, fun k hk _ => Below.heap_alloc _ _ _ hk⟩
theorem Chg.drew (h : Chg S w a) : Chg S w a.drew := ⟨h.os, h.tape, h.output, h.size, h.block⟩
theorem Chg.drewN (h : Chg S w a) (n : Nat) : Chg S w (a.drewN n) := ⟨h.os, h.tape, h.output, h.size, h.block⟩
theorem Chg.setCell (h : Chg S w a) {p : Addr} (hp : S p.block ∨ w.heap.size ≤ p.block) (u : Value) : Chg S w (a.setCell p u) :=
  h.step (T := fun k => k = p.block) ⟨rfl, rfl, rfl, by simp [World.setCell], fun k _ hk => Below.heap_setCell _ _ _ _ hk⟩ fun k e => by subst e; exact hp
theorem Chg.setRow (h : Chg S w a) {g : Nat} (hp : S g ∨ w.heap.size ≤ g) (cs : Array Value) : Chg S w (a.setRow g cs) :=
  h.step (T := fun k => k = g) ⟨rfl, rfl, rfl, by simp, fun k _ hk => setRow_other _ _ _ _ hk⟩ fun k e => by subst e; exact hp
theorem Chg.of_below (h : Below n a b) (hn : a.heap.size ≤ n) : Chg S a b := ⟨h.os, h.tape, h.output, h.size, fun k hk _ => h.block k (by omega)⟩
theorem Chg.of_grown {row : Option Nat} (h : a.grownBy b row) (hs : ∀ k, some k = row → S k) : Chg S a b := ⟨h.os, h.tape, h.output, h.size, fun k hk ht => h.block k hk fun e => ht (hs k e)⟩
theorem Chg.below (h : Chg S a b) (hs : ∀ k, S k → n ≤ k) (hn : n ≤ a.heap.size) : Below n a b :=
  ⟨h.os, h.tape, h.output, h.size, fun k hk => h.block k (by omega) fun e => by have := hs k e; omega⟩
theorem Chg.cell (h : Chg S a b) {p : Addr} (hp : p.block < a.heap.size) (hs : ¬ S p.block) : b.cell? p = a.cell? p := World.cell?_of_block (h.block p.block hp hs)

theorem BlkIs.lt (h : BlkIs w k cs t) : k < w.heap.size := lt_of_block h
theorem BlkIs.cell (h : BlkIs w k cs t) (i : Nat) : w.cell? ⟨k, i, none⟩ = cs[i]? := by unfold BlkIs at h; simp [World.cell?, h]
theorem BlkIs.free (h : BlkIs w k cs t) (i : Nat) : w.frozen? ⟨k, i, none⟩ = false := by unfold BlkIs at h; simp [World.frozen?, h]
theorem BlkIs.new (w : World) (cs : Array Value) (t : TypeId) : BlkIs (w.alloc (.cells cs t)) w.heap.size cs t := by
  show (w.heap.push _)[w.heap.size]? = _
  simp
theorem BlkIs.chg (h : BlkIs a k cs t) (g : Chg S a b) (hs : ¬ S k) : BlkIs b k cs t := (g.block k h.lt hs).trans h
theorem BlkIs.below (h : BlkIs a k cs t) (g : Below n a b) (hs : k < n) : BlkIs b k cs t := (g.block k hs).trans h
theorem BlkIs.alloc (h : BlkIs a k cs t) (o : Obj) : BlkIs (a.alloc o) k cs t := (Below.heap_alloc a o k h.lt).trans h
theorem BlkIs.set (h : BlkIs w k cs t) (i : Nat) (u : Value) : BlkIs (w.setCell ⟨k, i, none⟩ u) k (cs.setIfInBounds i u) t := by
  unfold BlkIs at *
  rw [setCell_eq_setRow w k i cs t (0, 0) u h]
  exact setRow_heap w k _ _ t _ h
theorem BlkIs.far (h : BlkIs w k cs t) {p : Addr} (hp : k ≠ p.block) (u : Value) : BlkIs (w.setCell p u) k cs t := (Below.heap_setCell w p u k hp).trans h
theorem BlkIs.row (h : BlkIs w k cs t) (ds : Array Value) : BlkIs (w.setRow k ds) k ds t := setRow_heap w k _ _ t _ h
theorem BlkIs.rowFar (h : BlkIs w k cs t) {g : Nat} (hp : k ≠ g) (ds : Array Value) : BlkIs (w.setRow g ds) k cs t := (setRow_other w g k ds hp).trans h
end

/-- k numbers are laid over l, from place a on. -/
def layL (l : List Int) (a : Nat) (f : Nat → Int) : Nat → List Int
  | 0 => l
  | k + 1 => (layL l a f k).set (a + k) (f k)
@[simp] theorem layL_length (l : List Int) (a : Nat) (f : Nat → Int) (k : Nat) : (layL l a f k).length = l.length := by
  induction k with
  | zero => rfl
  | succ k ih => simp [layL, ih]
theorem layL_at (l : List Int) (a : Nat) (f : Nat → Int) (k j : Nat) (h : j < l.length) : (layL l a f k).getD j 0 = if a ≤ j ∧ j < a + k then f (j - a) else l.getD j 0 := by
  induction k with
  | zero => rw [if_neg (by omega)]; rfl
  | succ k ih =>
    unfold layL
    rw [List.getD_eq_getElem?_getD, List.getElem?_set]
    by_cases e : a + k = j
    · subst e
      rw [if_pos rfl, if_pos (by rw [layL_length]; exact h), if_pos (by omega), show a + k - a = k from by omega]
      rfl
    · rw [if_neg e, ← List.getD_eq_getElem?_getD, ih]
      by_cases e2 : a ≤ j ∧ j < a + k
      · rw [if_pos e2, if_pos (by omega)]
      · rw [if_neg e2, if_neg (by omega)]
theorem layL_mem {l : List Int} {a : Nat} {f : Nat → Int} {P : Int → Prop} (hl : ∀ z ∈ l, P z) (k : Nat) (hf : ∀ j, j < k → P (f j)) : ∀ z ∈ layL l a f k, P z := by
  induction k with
  | zero => exact hl
  | succ k ih =>
    intro z hz
    rcases List.mem_or_eq_of_mem_set hz with h | rfl
    · exact ih (fun j hj => hf j (by omega)) z h
    · exact hf k (by omega)
theorem ext_getD {l m : List Int} (hl : l.length = m.length) (h : ∀ j, j < l.length → l.getD j 0 = m.getD j 0) : l = m := by
  refine List.ext_getElem hl fun i h1 h2 => ?_
  have := h i h1
  simpa [List.getD, h1, h2] using this
theorem layL_splice (l : List Int) (a : Nat) (f : Nat → Int) (k : Nat) (h : a + k ≤ l.length) : layL l a f k = splice l a ((List.range k).map f) := by
  have hs := length_splice l a ((List.range k).map f) (by simpa using h)
  refine ext_getD (by rw [layL_length, hs]) fun j hj => ?_
  rw [layL_length] at hj
  rw [layL_at _ _ _ _ _ hj]
  unfold splice
  by_cases h1 : j < a
  · rw [if_neg (by omega), List.getD_eq_getElem?_getD, List.getD_eq_getElem?_getD, List.getElem?_append_left (by simp; omega), List.getElem?_take_of_lt h1]
  · by_cases h2 : j < a + k
    · rw [if_pos (by omega), List.getD_eq_getElem?_getD, List.getElem?_append_right (by simp; omega), List.length_take, Nat.min_eq_left (by omega), List.getElem?_append_left (by simp; omega), List.getElem?_map, List.getElem?_range (by omega)]
      rfl
    · rw [if_neg (by omega), List.getD_eq_getElem?_getD, List.getD_eq_getElem?_getD, List.getElem?_append_right (by simp; omega), List.length_take, Nat.min_eq_left (by omega), List.getElem?_append_right (by simp; omega), List.getElem?_drop, List.length_map, List.length_range]
      congr 2
      omega

/-- A place of a list of numbers, as a value. -/
theorem map_set {α β : Type} (f : α → β) (l : List α) (i : Nat) (x : α) : (l.map f).set i (f x) = (l.set i x).map f := by
  rw [List.map_set]
theorem splice_map {α β : Type} (f : α → β) (l : List α) (a : Nat) (cs : List α) : splice (l.map f) a (cs.map f) = (splice l a cs).map f := by
  unfold splice; simp

/-- 'copy' at a step of a region that draws its order: the world behind it written out. -/
theorem step_copy_at {P : Program} {ops : Array Oper} {o : Oper} {a : Act} {w : World} {K : Act → World → Prop} {Q : Exit → Act → World → Prop} {E : Prop} (hgd : o.guard = none) (d s : Operand) (dT sT : TypeId)
    (ho : o.op = .call { callee := .builtin .copy, args := #[d, s], argTypes := #[dT, sT] }) (elem : TypeId) (hu : P.underlying dT = some (.slice elem)) (hsz : (P.info? elem).map (·.size) = some 1)
    (dp sp : Option Addr) (dLen dCap sLen sCap : Nat) (hd : a.eval d = .slice dp dLen dCap) (hs : a.eval s = .slice sp sLen sCap)
    (g off : Nat) (cur : List Value) (t : TypeId) (hg : w.heap[g]? = some (.cells cur.toArray t (0, 0))) (cs : List Value) (hn : cs.length = Nat.min sLen dLen)
    (hpos : 0 < cs.length → dp = some ⟨g, off, none⟩ ∧ ∃ ad, sp = some ad ∧ ∀ j v, cs[j]? = some v → w.cell? (ad.add j) = some v)
    (hfit : off + cs.length ≤ cur.length) (h1 : ∀ v ∈ cs, v.oneCell' = true)
    (h : K (a.put o.dst (goInt cs.length)) (w.setRow g (splice cur off cs).toArray)) :
    if Region.wanted o (yielded ops a.tmps) = true then Oper.wp P o a w K Q else E := by
  rw [if_pos (by simp [Region.wanted, hgd])]
  by_cases h0 : cs.length = 0
  · obtain rfl : cs = [] := List.eq_nil_of_length_eq_zero h0
    have hrun := run_copy_none (P := P) w dT sT o.type elem dp sp dLen dCap sLen sCap hu hsz (by simpa using hn.symm)
    have he : splice cur off ([] : List Value) = cur := by simp [splice]
    rw [he, setRow_self w g _ t (0, 0) hg] at h
    unfold Oper.wp
    simp [execOp, ho, resolve, invoke, builtin, hd, hs, hrun, Result.andThen]
    exact h
  · obtain ⟨rfl, ad, rfl, hsrc⟩ := hpos (by omega)
    have hrun := run_copy_row (P := P) w dT sT o.type elem g off dLen dCap ad sLen sCap cur.toArray t cs hu hsz hg hn hsrc (by simpa using hfit) h1
    unfold Oper.wp
    simp [execOp, ho, resolve, invoke, builtin, hd, hs, hrun, Result.andThen]
    exact h

/-- 'make' of a row of one-cell elements. -/
theorem make_row {P : Program} (t e : TypeId) (i : TypeInfo) (z : Value) (ht : P.underlying t = some (.slice e)) (hi : P.info? e = some i) (hz : i.zero = some z)
    (kl kc : IntKind) (n c : Nat) (hnc : n ≤ c) (hbytes : i.bytes * c ≤ 281474976710656) (h63 : c ≤ 9223372036854775807) (w : World) :
    (Instr.makeSlice t (.int kl (n : Int)) (.int kc (c : Int))).run P w = .ok (.slice (some ⟨w.heap.size, 0, none⟩) n c) (w.alloc (.cells (madeCells z.cells (c * i.size)) e)) := by
  have hb : (i.bytes : Int) * (c : Int) ≤ 281474976710656 := by
    have h : ((i.bytes * c : Nat) : Int) ≤ 281474976710656 := by omega
    rwa [Int.natCast_mul] at h
  have hr := run_make (P := P) w t e i z ht hi hz kl kc n c (by omega) (by omega) hb (by omega)
  simp only [Int.toNat_natCast] at hr
  exact hr
theorem made_ints (k : IntKind) (n : Nat) : madeCells #[Value.int k 0] n = ((List.replicate n (0 : Int)).map (Value.int k)).toArray := by
  refine Array.ext_getElem? fun i => ?_
  simp only [madeCells, List.size_toArray, List.length_cons, List.length_nil, Nat.zero_add, Nat.mod_one, Array.getElem?_map, List.getElem?_toArray, List.getElem?_map]
  by_cases h : i < n
  · simp [h]
  · simp [h]

end Go.Proofs.Ytceedbkacbaaiaa
