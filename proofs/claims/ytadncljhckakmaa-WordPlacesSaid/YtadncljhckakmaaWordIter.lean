/- The contract of package word's iterator over parts: at right widths it goes through all of them, in their order, whatever the body of the loop does that keeps what lay below n₀ and what was laid from n₁ on. -/
import Derived.Test.YtadncljhckakmaaWordLeaf
import Derived.Test.YtadncljhckakmaaRound
import Derived.RangeFuncNested
import Derived.RangeFuncBound
import Derived.RangeFuncCalls
import Derived.RangeFuncLeaves
import Derived.Shelf.Abstract
import Derived.Shelf.RegionOpen
import Derived.OwnWalkIn
import Derived.TacticsInMore
import Derived.LoopNIn
import Derived.LoopIn
namespace Go.Proofs.Ytadncljhckakmaa
open Go.RowKit Go.Shelf

attribute [local go_sem] Oper.semAt_some

/-- What a round of a loop may not touch: what lay below n₀, and the parts that were laid from n₁ on. -/
def Kp2 (n₀ n₁ : Nat) (A B : World) : Prop := Below n₀ A B ∧ ∀ (b : Nat) (cs : Array Value), n₁ ≤ b → A.heap[b]? = some (.cells cs 26 (0, 0)) → B.heap[b]? = some (.cells cs 26 (0, 0))
theorem Kp2.refl (n₀ n₁ : Nat) (A : World) : Kp2 n₀ n₁ A A := ⟨Below.refl _ _, fun _ _ _ h => h⟩
theorem Kp2.trans {n₀ n₁ : Nat} {A B C : World} (h : Kp2 n₀ n₁ A B) (k : Kp2 n₀ n₁ B C) : Kp2 n₀ n₁ A C := ⟨h.1.trans k.1, fun b cs hb ho => k.2 b cs hb (h.2 b cs hb ho)⟩
theorem Kp2.of_below {n₀ n₁ : Nat} {A B : World} (hn : n₀ ≤ A.heap.size) (h : Below A.heap.size A B) : Kp2 n₀ n₁ A B :=
  ⟨h.mono hn, fun b _ _ ho => (h.block b (Array.getElem?_eq_some_iff.1 ho).1).trans ho⟩
theorem Kp2.alloc {n₀ n₁ : Nat} (A : World) (hn : n₀ ≤ A.heap.size) (o : Obj) : Kp2 n₀ n₁ A (A.alloc o) := Kp2.of_below hn ((Below.refl _ A).alloc (Nat.le_refl _) o)
theorem Kp2.drew {n₀ n₁ : Nat} (A : World) : Kp2 n₀ n₁ A A.drew := ⟨(Below.refl _ A).drew, fun _ _ _ h => h⟩
theorem Kp2.setCell {n₀ n₁ : Nat} (A : World) {p : Addr} (h0 : n₀ ≤ p.block) (h1 : p.block < n₁) (u : Value) : Kp2 n₀ n₁ A (A.setCell p u) :=
  ⟨(Below.refl _ A).setCell h0 u, fun b _ hb ho => (Below.heap_setCell _ _ _ _ (by omega)).trans ho⟩
theorem Kp2.putObj {n₀ n₁ : Nat} {w : World} (hn : n₀ ≤ w.heap.size) (W : World) (l : Nat) (o o' : Obj) (hl : w.heap.size ≤ l) (h : W.heap[l]? = some o) (hc : o.isCells = false) (hw : o.isWalk = false) : Kp2 n₀ n₁ W (W.putObj l o') :=
  ⟨belowK_b hn W l o o' hl h hc hw, fun b x _ hx => by
    by_cases e : l = b
    · subst e; rw [h] at hx; cases hx; cases hc
    · exact (World.putObj_heap_other (by omega)).trans hx⟩
/-- An append onto a row of the caller's own. -/
theorem Kp2.grown {n₀ n₁ : Nat} {A B : World} {row : Option Nat} (hg : A.grownBy B row) (hn : n₀ ≤ A.heap.size) (hr : ∀ g, row = some g → n₀ ≤ g ∧ ∀ cs, A.heap[g]? ≠ some (.cells cs 26 (0, 0))) : Kp2 n₀ n₁ A B :=
  ⟨(Below.refl _ A).grown hg hn (fun k e => (hr k e).1), fun b cs _ ho => (hg.block b (Array.getElem?_eq_some_iff.1 ho).1 (fun e => (hr b e.symm).2 cs ho)).trans ho⟩

/-- A slice of ints, in a block below n₀: element j is f j. -/
def IntsAt (n₀ : Nat) (W : World) (sv : Value) (len : Nat) (f : Nat → Int) : Prop :=
  (len = 0 ∧ ∃ a cap, sv = .slice a 0 cap) ∨ ∃ b off cap, sv = .slice (some ⟨b, off, none⟩) len cap ∧ b < n₀ ∧ ∀ j, j < len → W.cell? ⟨b, off + j, none⟩ = some (.int .i64 (f j))
theorem IntsAt.below {n₀ : Nat} {A B : World} (h : Below n₀ A B) {sv : Value} {len : Nat} {f : Nat → Int} : IntsAt n₀ A sv len f → IntsAt n₀ B sv len f
  | .inl e => .inl e
  | .inr ⟨b, off, cap, e, hb, hc⟩ => .inr ⟨b, off, cap, e, hb, fun j hj => (h.cell (p := ⟨b, off + j, none⟩) hb).trans (hc j hj)⟩

abbrev encPart (len : Nat) (sv dv : Nat → Int) (x : Fin len) : Array Value := #[.int .i64 (x.1 : Int), .agg #[.int .i64 (sv x.1), .int .i64 (dv x.1)]]

set_option maxRecDepth 100000 in
set_option maxHeartbeats 2000000 in
theorem parts1_in (n : Nat) (hn1 : 1 ≤ n) (l Bs n₀ n₁ b off len cap : Nat) (sv dv : Nat → Int) (hlen : len ≤ 1000) (h0s : Hid (sv 0 = 0)) (hss : Hid (∀ k, sv (k + 1) = sv k + dv k)) (hrt : Hid (∀ k, k < len → 0 ≤ sv k ∧ 1 ≤ dv k ∧ sv k + dv k ≤ 64))
    (hb : b < n₀) (J Jx : List (Fin len) → World → Prop) (W : World) (hn : n₁ ≤ W.heap.size) (hn0 : n₀ ≤ n₁) (hJ : AbidesFrom W.heap.size J)
    (hY : ∀ pre x W1, J pre W1 → pre.length < len → YieldAt Fence.wide (n - 1) Try.prog l (encPart len sv dv x) W1 fun e W' =>
      (e = .returned (.bool true) ∧ J (pre ++ [x]) W' ∧ Kp2 n₀ n₁ W1 W') ∨ (e = .returned (.bool false) ∧ Jx (pre ++ [x]) W'))
    (hBs : W.cell? ⟨Bs, 0, none⟩ = some (.slice (some ⟨b, off, none⟩) len cap)) (hc : ∀ j, j < len → W.cell? ⟨b, off + j, none⟩ = some (.int .i64 (dv j))) (h0 : J [] W) :
    CallsIn Fence.wide n Try.prog 25 #[.func (.yield l) #[] #[], .pointer (some ⟨Bs, 0, none⟩)] W fun e W' => (∃ v, e = .returned v) ∧
      ((∃ xs : List (Fin len), xs.map Fin.val = List.range len ∧ J xs W') ∨ (∃ pre, True ∧ Jx pre W')) := by
  have hfR : Fence.wide.fn 22 := trivial
  refine callsIn_of_wp Try.func25 rfl trivial ?_ rfl
  simp only [Try.ntmps25, List.size_toArray, List.length_cons, List.length_nil, Nat.reduceAdd, Nat.reduceSub, Array.replicate_succ, Array.replicate_zero, List.push_toArray, List.append_toArray, List.nil_append, List.cons_append]
  gi_wp2
  gi_loopw [3, 9] (fun s i wr => ∃ (k : Nat) (pre : List (Fin len)), k ≤ len ∧ i = .int .i64 k ∧ s = .int .i64 (sv k) ∧ pre.map Fin.val = List.range k ∧ J pre wr ∧ Below n₀ W wr)
    (fun _ i _ => len - (intOf i).toNat)
  case atStart => exact ⟨0, [], Nat.zero_le _, rfl, by rw [h0s.out], rfl, h0, Below.refl _ _⟩
  case round =>
    obtain ⟨k, pre, hk, rfl, rfl, hpre, hJs, hnx⟩ := hrel
    have Hpre := Lib.hid hpre
    clear hpre
    by_cases hlt : k < len
    · have hcx' : wr.cell? ⟨b, off + k, none⟩ = some (.int .i64 (dv k)) := (hnx.cell (p := ⟨b, off + k, none⟩) hb).trans (hc k hlt)
      obtain ⟨r1, r2, r3⟩ := hrt.out k hlt
      have hsz := hnx.size
      have hJ1 : J pre (wr.alloc (.cells #[.int .i64 (sv k), .int .i64 (dv k)] 26)) := hJ pre wr _ none hJs (World.grownBy_alloc wr _ none) (fun r e => by cases e)
      obtain ⟨fn, tmps, assign, body, hy, hR⟩ := hY pre ⟨k, hlt⟩ _ hJ1 (by rw [← List.length_map Fin.val, Hpre.out]; simpa using hlt)
      dsimp only [encPart] at hy
      gi_wp2
      refine hR.mono ?_
      rintro e W3 (⟨rfl, hJ3, hk3⟩ | ⟨rfl, hJx3⟩)
      · have hbx := hk3.2 wr.heap.size _ (by omega) (World.alloc_heap_new wr _)
        have hc0 : W3.cell? ⟨wr.heap.size, 0, none⟩ = some (.int .i64 (sv k)) := by simp [World.cell?, hbx]
        have hc1 : W3.cell? ⟨wr.heap.size, 1, none⟩ = some (.int .i64 (dv k)) := by simp [World.cell?, hbx]
        clear hbx
        gi_wp2_with (gi_at_call 22; refine (callsIn_wide.2 (right_yes _ _ _ r1 r2 r3)).mono ?_; rintro e w' ⟨rfl, hb4⟩)
        have hk4 := (Kp2.alloc wr (n₁ := n₁) (by omega) (.cells #[.int .i64 (sv k), .int .i64 (dv k)] 26)).trans hk3
        have hg : W3.grownBy w' none := ⟨hb4.os, hb4.tape, hb4.output, hb4.size, fun i hi _ => hb4.block i hi⟩
        exact ⟨⟨k + 1, pre ++ [⟨k, hlt⟩], by omega, by go_num, by rw [hss.out], by rw [List.map_append, Hpre.out, List.range_succ]; rfl, hJ _ _ _ none hJ3 hg (fun r e => by cases e), hnx.trans (hk4.1.trans (hb4.mono (by have := hk4.1.size; omega)))⟩, by simp [intOf]; omega⟩
      · gi_wp2
        refine bodyPost_ret (results_none rfl _ _ _) rfl ?_
        exact ⟨⟨_, rfl⟩, .inr ⟨_, trivial, hJx3⟩⟩
    · obtain rfl : k = len := by omega
      gi_wp2
      go_end0
      exact ⟨⟨_, rfl⟩, .inl ⟨_, Hpre.out, hJs⟩⟩

set_option maxRecDepth 100000 in
set_option maxHeartbeats 1000000 in
theorem parts1_nil (n : Nat) (_hn1 : 1 ≤ n) (l Bs cap : Nat) (a : Option Addr) (J : List (Fin 0) → World → Prop) (W : World)
    (hBs : W.cell? ⟨Bs, 0, none⟩ = some (.slice a 0 cap)) (h0 : J [] W) :
    CallsIn Fence.wide n Try.prog 25 #[.func (.yield l) #[] #[], .pointer (some ⟨Bs, 0, none⟩)] W fun e W' => (∃ v, e = .returned v) ∧ J [] W' := by
  refine callsIn_of_wp Try.func25 rfl trivial ?_ rfl
  simp only [Try.ntmps25, List.size_toArray, List.length_cons, List.length_nil, Nat.reduceAdd, Nat.reduceSub, Array.replicate_succ, Array.replicate_zero, List.push_toArray, List.append_toArray, List.nil_append, List.cons_append]
  gi_wp2
  gi_loopw [3, 9] (fun s i wr => i = .int .i64 0 ∧ s = .int .i64 0 ∧ J [] wr) (fun _ _ _ => 0)
  case atStart => exact ⟨rfl, rfl, h0⟩
  case round =>
    obtain ⟨rfl, rfl, hJs⟩ := hrel
    gi_wp2
    go_end0
    exact ⟨⟨_, rfl⟩, hJs⟩

theorem parts_any (n : Nat) (a : Option Addr) (len cap : Nat) (w : World) :
    CallsIn Fence.wide n Try.prog 24 #[.slice a len cap] w fun e w' => e = .returned (.func (.func 25) #[] #[.pointer (some ⟨w.heap.size, 0, none⟩)]) ∧ w' = w.alloc (.cells #[.slice a len cap] 33) := by
  refine callsIn_of_wp Try.func24 rfl trivial ?_ rfl
  simp only [Try.ntmps24, List.size_toArray, List.length_cons, List.length_nil, Nat.reduceAdd, Nat.reduceSub, Array.replicate_succ, Array.replicate_zero, List.push_toArray, List.append_toArray, List.nil_append, List.cons_append]
  gi_wp2
  go_ret
  exact ⟨rfl, rfl⟩

theorem parts_stops (n : Nat) (hn1 : 1 ≤ n) (Bs n₀ n₁ len : Nat) (v : Value) (sv dv : Nat → Int) (hlen : len ≤ 1000) (h0s : Hid (sv 0 = 0)) (hss : Hid (∀ k, sv (k + 1) = sv k + dv k)) (hrt : Hid (∀ k, k < len → 0 ≤ sv k ∧ 1 ≤ dv k ∧ sv k + dv k ≤ 64))
    (w : World) (hBs : Bs < w.heap.size) (hn : n₁ ≤ w.heap.size) (hn0 : n₀ ≤ n₁) (hc : w.cell? ⟨Bs, 0, none⟩ = some v) (hI : IntsAt n₀ w v len dv) :
    SeqStopsK Fence.wide n Try.prog 25 #[.pointer (some ⟨Bs, 0, none⟩)] (encPart len sv dv) (Kp2 n₀ n₁) (fun xs => xs.map Fin.val = List.range len) (fun _ => True) len w := fun l J Jx W hW hJ _ hY h0 => by
  have hc' := (hW.cell (p := ⟨Bs, 0, none⟩) hBs).trans hc
  rcases hI.below (hW.mono (by omega)) with ⟨rfl, a, cap, rfl⟩ | ⟨b, off, cap, rfl, hb, hcs⟩
  · exact (parts1_nil n hn1 l Bs cap a J W hc' h0).mono fun e W' ⟨he, hj⟩ => ⟨he, .inl ⟨[], rfl, hj⟩⟩
  · exact parts1_in n hn1 l Bs n₀ n₁ b off len cap sv dv hlen h0s hss hrt hb J Jx W (by have := hW.size; omega) hn0 hJ hY hc' hcs h0

end Go.Proofs.Ytadncljhckakmaa
