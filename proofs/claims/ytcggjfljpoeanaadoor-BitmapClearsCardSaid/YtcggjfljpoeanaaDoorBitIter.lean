/- The contract of package bitmap's iterator: it goes through what is in from a number on, by rising numbers, whatever the body of the loop does that keeps what lay below n₁ but for S. Condition: the set is one (BitAt). -/
import Derived.Test.YtcggjfljpoeanaaDoorBitmap
import Derived.Test.YtcggjfljpoeanaaDoorRound
import Derived.RangeFuncNested
import Derived.RangeFuncBound
import Derived.RangeFuncCalls
import Derived.RangeFuncLeaves
import Derived.Shelf.Abstract
import Derived.Shelf.RegionOpen
import Derived.OwnWalkIn
import Derived.TacticsInMore
import Derived.LoopNIn
import Derived.LoopIn
namespace Go.Proofs.YtcggjfljpoeanaaDoor
open Go.RowKit Go.Shelf

set_option linter.unusedSimpArgs false
set_option linter.unusedVariables false
attribute [local go_sem] Oper.semAt_some

/-- What a round of a loop may not touch: what lay below n₁, but for S. -/
def KpB (n₁ : Nat) (S : Nat → Prop) (A B : World) : Prop := A.heap.size ≤ B.heap.size ∧ ∀ b, b < n₁ → ¬ S b → B.heap[b]? = A.heap[b]?
section
variable {n₁ : Nat} {S : Nat → Prop} {A B C : World}
theorem KpB.refl (n₁ : Nat) (S : Nat → Prop) (A : World) : KpB n₁ S A A := ⟨Nat.le_refl _, fun _ _ _ => rfl⟩
theorem KpB.trans (h : KpB n₁ S A B) (k : KpB n₁ S B C) : KpB n₁ S A C := ⟨Nat.le_trans h.1 k.1, fun b hb hs => (k.2 b hb hs).trans (h.2 b hb hs)⟩
theorem KpB.setCell (A : World) {p : Addr} (hp : S p.block) (u : Value) : KpB n₁ S A (A.setCell p u) :=
  ⟨by simp [World.setCell], fun b _ hs => Below.heap_setCell _ _ _ _ fun e => hs (e ▸ hp)⟩
theorem KpB.putObj (W : World) (l : Nat) (o : Obj) (hl : n₁ ≤ l) : KpB n₁ S W (W.putObj l o) :=
  ⟨by simp [World.putObj], fun b hb _ => World.putObj_heap_other (by omega)⟩
theorem KpB.of_below (h : Below n₁ A B) : KpB n₁ S A B := ⟨h.size, fun b hb _ => h.block b hb⟩
theorem KpB.cell (h : KpB n₁ S A B) {p : Addr} (hp : p.block < n₁) (hs : ¬ S p.block) : B.cell? p = A.cell? p := World.cell?_of_block (h.2 p.block hp hs)
theorem BitAt.kpB {p q bound m : Nat} (h : BitAt A p q bound m) (g : KpB n₁ S A B) (hp : p < n₁ ∧ ¬ S p) (hq : q < n₁ ∧ ¬ S q) (h0 : 0 < n₁ ∧ ¬ S 0) : BitAt B p q bound m :=
  ⟨(g.2 p hp.1 hp.2).trans h.head, (g.2 q hq.1 hq.2).trans h.row, h.le, h.fits, fun j hj => (g.cell (p := ⟨_, j, none⟩) h0.1 h0.2).trans (h.tab j hj), h.nq⟩
end

/-- What is left of a word: those of it from c on that are to be told. -/
structure LeftOk (m a t c L : Nat) : Prop where
  lt : L < 18446744073709551616
  lo : 64 * t ≤ c
  hi : c ≤ 64 * t + 64
  bit : ∀ j, j < 64 → L.testBit j = (decide (c ≤ 64 * t + j) && (decide (a ≤ 64 * t + j) && m.testBit (64 * t + j)))
theorem LeftOk.whole {m a t : Nat} (h : a ≤ 64 * t) : LeftOk m a t (64 * t) (Bm.wordOf m t) := by
  refine ⟨Bm.wordOf_lt _ _, Nat.le_refl _, by omega, fun j hj => ?_⟩
  rw [Bm.wordOf_bit]
  have h1 : 64 * t ≤ 64 * t + j := by omega
  have h2 : a ≤ 64 * t + j := by omega
  simp [hj, h1, h2]
theorem LeftOk.cut {m a : Nat} : LeftOk m a (a / 64) (64 * (a / 64)) (Bm.wordOf m (a / 64) &&& (18446744073709551615 - (2 ^ (a % 64) - 1))) := by
  refine ⟨Nat.lt_of_le_of_lt Nat.and_le_left (Bm.wordOf_lt _ _), Nat.le_refl _, by omega, fun j hj => ?_⟩
  rw [Bm.upper_bit (Bm.wordOf_lt _ _) (by omega), Bm.wordOf_bit]
  have h1 : 64 * (a / 64) ≤ 64 * (a / 64) + j := by omega
  have h2 : decide (a % 64 ≤ j) = decide (a ≤ 64 * (a / 64) + j) := by
    by_cases e : a % 64 ≤ j
    · have : a ≤ 64 * (a / 64) + j := by omega
      simp [e, this]
    · have : ¬ a ≤ 64 * (a / 64) + j := by omega
      simp [e, this]
  simp [hj, h1, h2]
theorem LeftOk.done {m a t c : Nat} (h : LeftOk m a t c 0) : Bm.els m a (64 * (t + 1)) = Bm.els m a c := by
  have h1 := h.lo
  have h2 := h.hi
  refine Bm.els_skip (by omega) fun j hj hd ha => ?_
  have := h.bit (j - 64 * t) (by omega)
  rw [Nat.zero_testBit, show 64 * t + (j - 64 * t) = j from by omega] at this
  have h3 : c ≤ j := hj
  simpa [h3, ha] using this
theorem LeftOk.next {m a t c L : Nat} (h : LeftOk m a t c L) (h0 : L ≠ 0) :
    m.testBit (64 * t + Lib.ctz 64 L) = true ∧ a ≤ 64 * t + Lib.ctz 64 L ∧ Lib.ctz 64 L < 64 ∧ Bm.els m a (64 * t + Lib.ctz 64 L + 1) = Bm.els m a c ++ [64 * t + Lib.ctz 64 L] ∧ LeftOk m a t (64 * t + Lib.ctz 64 L + 1) (L &&& (L - 1)) := by
  obtain ⟨_, _, hk⟩ := Bm.low_form h0 h.lt
  have hin := Bm.low_in h0 h.lt
  have hbel := Bm.low_below h0 h.lt
  have hoff := Bm.low_off h0 h.lt
  generalize Lib.ctz 64 L = k at *
  have hb := h.bit k hk
  rw [hin] at hb
  have hb := hb.symm
  rw [Bool.and_eq_true, Bool.and_eq_true, decide_eq_true_eq, decide_eq_true_eq] at hb
  obtain ⟨h1, h2, h3⟩ := hb
  have hlo := h.lo
  have hhi := h.hi
  refine ⟨h3, h2, hk, Bm.els_next h1 h2 h3 fun j j1 j2 j3 => ?_, Nat.lt_of_le_of_lt Nat.and_le_left h.lt, by omega, by omega, fun j hj => ?_⟩
  · have := h.bit (j - 64 * t) (by omega)
    rw [hbel _ (by omega), show 64 * t + (j - 64 * t) = j from by omega] at this
    simpa [j1, j3] using this.symm
  · rw [hoff, h.bit j hj]
    by_cases e : j = k
    · subst e
      have : ¬ 64 * t + j + 1 ≤ 64 * t + j := by omega
      simp [this]
    · by_cases e2 : c ≤ 64 * t + j
      · by_cases e3 : j < k
        · have hz := h.bit j hj
          rw [hbel j e3] at hz
          rw [← hz]
          have : ¬ 64 * t + k + 1 ≤ 64 * t + j := by omega
          simp [this]
        · have : 64 * t + k + 1 ≤ 64 * t + j := by omega
          simp [e, e2, this]
      · have : ¬ 64 * t + k + 1 ≤ 64 * t + j := by omega
        simp [e2, this]

theorem cut_int (m a : Nat) : bits BinOp.andNot IntKind.u64 (Bm.wordOf m (a / 64) : Int) ((bitV a : Int) - 1) = ((Bm.wordOf m (a / 64) &&& (18446744073709551615 - (2 ^ (a % 64) - 1)) : Nat) : Int) := by
  have h1 := bitV_lt a
  have h2 := bitV_pos a
  rw [show ((bitV a : Int) - 1) = ((bitV a - 1 : Nat) : Int) from by omega, u64_andNot_nat _ _ (Bm.wordOf_lt _ _) (by omega)]
  rfl
theorem off_int (L : Nat) (h0 : L ≠ 0) (h : L < 18446744073709551616) : bits BinOp.and IntKind.u64 (L : Int) ((L : Int) - 1) = ((L &&& (L - 1) : Nat) : Int) := by
  rw [show ((L : Int) - 1) = ((L - 1 : Nat) : Int) from by omega, bits_and_u64_nat _ _ h (by omega)]

abbrev encNat (x : Nat) : Array Value := #[.int .i64 (x : Int)]

theorem next_len {m a c x bound : Nat} (hm : m < 2 ^ bound) (hx : m.testBit x = true) (h : Bm.els m a (x + 1) = Bm.els m a c ++ [x]) : (∃ r, Bm.els m a bound = Bm.els m a c ++ [x] ++ r) ∧ (Bm.els m a c).length < (Bm.els m a bound).length := by
  have hb : x < bound := by
    by_cases e : x < bound
    · exact e
    · rw [Bm.not_in hm (by omega)] at hx; cases hx
  obtain ⟨r, hr, _⟩ := Bm.els_more (m := m) (a := a) (c := x + 1) (d := bound) (by omega)
  rw [h] at hr
  exact ⟨⟨r, hr⟩, by rw [hr]; simp⟩







set_option maxRecDepth 100000 in
set_option maxHeartbeats 2000000 in
theorem from1_pos (n : Nat) (hn1 : 1 ≤ n) (l Bi Bb n₁ p q bound m a : Nat) (i : Int) (S : Nat → Prop) (hia : i = (a : Int)) (ha : 0 < i) (i1 : i ≤ 9223372036854775807)
    (hp : p < n₁ ∧ ¬ S p) (hq : q < n₁ ∧ ¬ S q) (hg : 0 < n₁ ∧ ¬ S 0) (hBi : Bi < n₁ ∧ ¬ S Bi) (hBb : Bb < n₁ ∧ ¬ S Bb)
    (J Jx : List Nat → World → Prop) (W : World) (hn : n₁ ≤ W.heap.size) (H : BitAt W p q bound m)
    (hY : ∀ pre x W1, J pre W1 → pre.length < (Bm.els m a bound).length → YieldAt Fence.wide (n - 1) Tryd.prog l (encNat x) W1 fun e W' =>
      (e = .returned (.bool true) ∧ J (pre ++ [x]) W' ∧ KpB n₁ S W1 W') ∨ (e = .returned (.bool false) ∧ Jx (pre ++ [x]) W'))
    (hci : W.cell? ⟨Bi, 0, none⟩ = some (.int .i64 i)) (hcb : W.cell? ⟨Bb, 0, none⟩ = some (.pointer (some ⟨p, 0, none⟩))) (h0 : J [] W) :
    CallsIn Fence.wide n Tryd.prog 19 #[.func (.yield l) #[] #[], .pointer (some ⟨Bi, 0, none⟩), .pointer (some ⟨Bb, 0, none⟩)] W fun e W' => (∃ v, e = .returned v) ∧
      ((∃ xs : List Nat, xs = Bm.els m a bound ∧ J xs W') ∨ (∃ pre, (∃ r, Bm.els m a bound = pre ++ r) ∧ Jx pre W')) := by
  subst hia
  have hfB : Fence.wide.fn 16 := trivial
  have hfT : Fence.wide.fn 20 := trivial
  have hle := H.le
  have hb : nWords bound ≤ 1024 := by unfold nWords; omega
  refine callsIn_of_wp Tryd.func19 rfl trivial ?_ rfl
  simp only [Tryd.ntmps19, List.size_toArray, List.length_cons, List.length_nil, Nat.reduceAdd, Nat.reduceSub, Array.replicate_succ, Array.replicate_zero, List.push_toArray, List.append_toArray, List.nil_append, List.cons_append]
  gi_wp2
  gi_loopw [5] (fun at' wr => ∃ (t : Nat) (pre : List Nat), a / 64 ≤ t ∧ at' = .int .i64 t ∧ Hid (pre = Bm.els m a (64 * t)) ∧ J pre wr ∧ KpB n₁ S W wr)
    (fun at' _ => nWords bound - (intOf at').toNat)
  case atStart => exact ⟨a / 64, [], Nat.le_refl _, rfl, (Bm.els_none (by omega)).symm, h0, KpB.refl _ _ _⟩
  case round =>
    obtain ⟨t, pre, ht, rfl, Hpre, hJ, hk⟩ := hrel
    have H1 := H.kpB hk hp hq hg
    have ci := (hk.cell (p := ⟨Bi, 0, none⟩) hBi.1 hBi.2).trans hci
    have cb := (hk.cell (p := ⟨Bb, 0, none⟩) hBb.1 hBb.2).trans hcb
    have c1 := H1.slot1
    by_cases hlt : t < nWords bound
    · have cw := H1.word hlt
      by_cases hf : t = a / 64
      · have hd : ((t : Int) == ((a : Int) / 64)) = true := by simp; omega
        have hL : LeftOk m a t (64 * t) (Bm.wordOf m t &&& (18446744073709551615 - (2 ^ (a % 64) - 1))) := by rw [hf]; exact LeftOk.cut
        have hcut : Hid (bits BinOp.andNot IntKind.u64 (Bm.wordOf m t : Int) ((bitV a : Int) - 1) = ((Bm.wordOf m t &&& (18446744073709551615 - (2 ^ (a % 64) - 1)) : Nat) : Int)) := Lib.hid (by rw [hf]; exact cut_int m a)
        clear hf
        have hv := bitV_lt a
        have hv2 := bitV_pos a
        gi_wp2_with fail
        refine (callsIn_wide.2 (bit_any a _ (by omega))).mono ?_
        rintro e w' ⟨rfl, rfl⟩
        gi_wp2
        obtain ⟨wo, hwo⟩ : ∃ wo : World, wo = wr := ⟨_, rfl⟩
        gi_loopw [6] (fun s wr => ∃ (L c : Nat) (pre : List Nat), s = .int .u64 L ∧ LeftOk m a t c L ∧ Hid (pre = Bm.els m a c) ∧ J pre wr ∧ KpB n₁ S W wr) (fun s _ => (intOf s).toNat)
        case atStart => exact ⟨_, _, _, by first | rfl | (rw [hcut.out]), hL, Hpre.out, hJ, hk⟩
        case round =>
          obtain ⟨L, c, pre, rfl, hL, Hpre, hJ, hk⟩ := hrel
          have H1 := H.kpB hk hp hq hg
          by_cases hz : L = 0
          · subst hz
            gi_wp2
            exact ⟨⟨t + 1, pre, by omega, by go_num, Hpre.out.trans hL.done.symm, hJ, hk⟩, by simp [intOf]; omega⟩
          · obtain ⟨n1, n2, n3, n4, n5⟩ := hL.next hz
            have hlt' := hL.lt
            have hzb : ((L : Int) == 0) = false := by simp; omega
            obtain ⟨hr, hlen⟩ := next_len H.fits n1 n4
            rw [← Hpre.out] at hlen hr n4
            have Hr := Lib.hid hr
            have Hn4 := Lib.hid n4
            have Hoff := Lib.hid (off_int L hz hlt')
            obtain ⟨fn, tmps, assign, body, hy, hR⟩ := hY pre (64 * t + Lib.ctz 64 L) wr hJ hlen
            have htz := tz_any L hlt' hz wr H1.tab
            have hT1 := H1.tab
            have hll := Bm.low_lt hz
            generalize Lib.ctz 64 L = z at *
            dsimp only [encNat] at hy
            rw [show ((64 * t + z : Nat) : Int) = (t : Int) * 64 + (z : Int) from by omega] at hy
            clear hL hr n4
            gi_wp2_with fail
            refine (callsIn_wide.2 htz).mono ?_
            rintro e w' ⟨rfl, rfl⟩
            gi_wp2
            refine hR.mono ?_
            rintro e W3 (⟨rfl, hJ3, hk3⟩ | ⟨rfl, hJx3⟩)
            · gi_wp2
              exact ⟨⟨_, _, _, by rw [Hoff.out], n5, Hn4.out.symm, hJ3, hk.trans hk3⟩, by rw [Hoff.out]; simp only [intOf]; omega⟩
            · gi_wp2
              refine bodyPost_ret (results_none rfl _ _ _) rfl ?_
              exact ⟨⟨_, rfl⟩, .inr ⟨_, Hr.out, hJx3⟩⟩
      · have hd : ((t : Int) == ((a : Int) / 64)) = false := by simp; omega
        have hL := LeftOk.whole (m := m) (a := a) (t := t) (by omega)
        gi_wp2
        obtain ⟨wo, hwo⟩ : ∃ wo : World, wo = wr := ⟨_, rfl⟩
        gi_loopw [6] (fun s wr => ∃ (L c : Nat) (pre : List Nat), s = .int .u64 L ∧ LeftOk m a t c L ∧ Hid (pre = Bm.els m a c) ∧ J pre wr ∧ KpB n₁ S W wr) (fun s _ => (intOf s).toNat)
        case atStart => exact ⟨_, _, _, by first | rfl | (rw [hcut.out]), hL, Hpre.out, hJ, hk⟩
        case round =>
          obtain ⟨L, c, pre, rfl, hL, Hpre, hJ, hk⟩ := hrel
          have H1 := H.kpB hk hp hq hg
          by_cases hz : L = 0
          · subst hz
            gi_wp2
            exact ⟨⟨t + 1, pre, by omega, by go_num, Hpre.out.trans hL.done.symm, hJ, hk⟩, by simp [intOf]; omega⟩
          · obtain ⟨n1, n2, n3, n4, n5⟩ := hL.next hz
            have hlt' := hL.lt
            have hzb : ((L : Int) == 0) = false := by simp; omega
            obtain ⟨hr, hlen⟩ := next_len H.fits n1 n4
            rw [← Hpre.out] at hlen hr n4
            have Hr := Lib.hid hr
            have Hn4 := Lib.hid n4
            have Hoff := Lib.hid (off_int L hz hlt')
            obtain ⟨fn, tmps, assign, body, hy, hR⟩ := hY pre (64 * t + Lib.ctz 64 L) wr hJ hlen
            have htz := tz_any L hlt' hz wr H1.tab
            have hT1 := H1.tab
            have hll := Bm.low_lt hz
            generalize Lib.ctz 64 L = z at *
            dsimp only [encNat] at hy
            rw [show ((64 * t + z : Nat) : Int) = (t : Int) * 64 + (z : Int) from by omega] at hy
            clear hL hr n4
            gi_wp2_with fail
            refine (callsIn_wide.2 htz).mono ?_
            rintro e w' ⟨rfl, rfl⟩
            gi_wp2
            refine hR.mono ?_
            rintro e W3 (⟨rfl, hJ3, hk3⟩ | ⟨rfl, hJx3⟩)
            · gi_wp2
              exact ⟨⟨_, _, _, by rw [Hoff.out], n5, Hn4.out.symm, hJ3, hk.trans hk3⟩, by rw [Hoff.out]; simp only [intOf]; omega⟩
            · gi_wp2
              refine bodyPost_ret (results_none rfl _ _ _) rfl ?_
              exact ⟨⟨_, rfl⟩, .inr ⟨_, Hr.out, hJx3⟩⟩
    · gi_wp2
      go_end0
      exact ⟨⟨_, rfl⟩, .inl ⟨_, Hpre.out.trans (Bm.els_all H.fits (by unfold nWords at hlt; omega)), hJ⟩⟩

set_option maxRecDepth 100000 in
set_option maxHeartbeats 2000000 in
theorem from1_neg (n : Nat) (hn1 : 1 ≤ n) (l Bi Bb n₁ p q bound m a : Nat) (i : Int) (S : Nat → Prop) (ha : a = 0) (hi : i < 0) (i0 : -9223372036854775808 ≤ i)
    (hp : p < n₁ ∧ ¬ S p) (hq : q < n₁ ∧ ¬ S q) (hg : 0 < n₁ ∧ ¬ S 0) (hBi : Bi < n₁ ∧ ¬ S Bi) (hBb : Bb < n₁ ∧ ¬ S Bb)
    (J Jx : List Nat → World → Prop) (W : World) (hn : n₁ ≤ W.heap.size) (H : BitAt W p q bound m)
    (hY : ∀ pre x W1, J pre W1 → pre.length < (Bm.els m a bound).length → YieldAt Fence.wide (n - 1) Tryd.prog l (encNat x) W1 fun e W' =>
      (e = .returned (.bool true) ∧ J (pre ++ [x]) W' ∧ KpB n₁ S W1 W') ∨ (e = .returned (.bool false) ∧ Jx (pre ++ [x]) W'))
    (hci : W.cell? ⟨Bi, 0, none⟩ = some (.int .i64 i)) (hcb : W.cell? ⟨Bb, 0, none⟩ = some (.pointer (some ⟨p, 0, none⟩))) (h0 : J [] W) :
    CallsIn Fence.wide n Tryd.prog 19 #[.func (.yield l) #[] #[], .pointer (some ⟨Bi, 0, none⟩), .pointer (some ⟨Bb, 0, none⟩)] W fun e W' => (∃ v, e = .returned v) ∧
      ((∃ xs : List Nat, xs = Bm.els m a bound ∧ J xs W') ∨ (∃ pre, (∃ r, Bm.els m a bound = pre ++ r) ∧ Jx pre W')) := by
  have hfB : Fence.wide.fn 16 := trivial
  have hfT : Fence.wide.fn 20 := trivial
  have hle := H.le
  have hb : nWords bound ≤ 1024 := by unfold nWords; omega
  refine callsIn_of_wp Tryd.func19 rfl trivial ?_ rfl
  simp only [Tryd.ntmps19, List.size_toArray, List.length_cons, List.length_nil, Nat.reduceAdd, Nat.reduceSub, Array.replicate_succ, Array.replicate_zero, List.push_toArray, List.append_toArray, List.nil_append, List.cons_append]
  gi_wp2
  gi_loopw [5] (fun at' wr => ∃ (t : Nat) (pre : List Nat), a / 64 ≤ t ∧ at' = .int .i64 t ∧ Hid (pre = Bm.els m a (64 * t)) ∧ J pre wr ∧ KpB n₁ S W wr)
    (fun at' _ => nWords bound - (intOf at').toNat)
  case atStart => exact ⟨a / 64, [], Nat.le_refl _, by rw [ha]; rfl, (Bm.els_none (by omega)).symm, h0, KpB.refl _ _ _⟩
  case round =>
    obtain ⟨t, pre, ht, rfl, Hpre, hJ, hk⟩ := hrel
    have H1 := H.kpB hk hp hq hg
    have ci := (hk.cell (p := ⟨Bi, 0, none⟩) hBi.1 hBi.2).trans hci
    have cb := (hk.cell (p := ⟨Bb, 0, none⟩) hBb.1 hBb.2).trans hcb
    have c1 := H1.slot1
    by_cases hlt : t < nWords bound
    · have cw := H1.word hlt
      by_cases hf : t = 0
      · have hL := LeftOk.whole (m := m) (a := a) (t := t) (by omega)
        have hd : ((t : Int) == 0) = true := by simp; omega
        clear hf
        gi_wp2
        obtain ⟨wo, hwo⟩ : ∃ wo : World, wo = wr := ⟨_, rfl⟩
        gi_loopw [6] (fun s wr => ∃ (L c : Nat) (pre : List Nat), s = .int .u64 L ∧ LeftOk m a t c L ∧ Hid (pre = Bm.els m a c) ∧ J pre wr ∧ KpB n₁ S W wr) (fun s _ => (intOf s).toNat)
        case atStart => exact ⟨_, _, _, by first | rfl | (rw [hcut.out]), hL, Hpre.out, hJ, hk⟩
        case round =>
          obtain ⟨L, c, pre, rfl, hL, Hpre, hJ, hk⟩ := hrel
          have H1 := H.kpB hk hp hq hg
          by_cases hz : L = 0
          · subst hz
            gi_wp2
            exact ⟨⟨t + 1, pre, by omega, by go_num, Hpre.out.trans hL.done.symm, hJ, hk⟩, by simp [intOf]; omega⟩
          · obtain ⟨n1, n2, n3, n4, n5⟩ := hL.next hz
            have hlt' := hL.lt
            have hzb : ((L : Int) == 0) = false := by simp; omega
            obtain ⟨hr, hlen⟩ := next_len H.fits n1 n4
            rw [← Hpre.out] at hlen hr n4
            have Hr := Lib.hid hr
            have Hn4 := Lib.hid n4
            have Hoff := Lib.hid (off_int L hz hlt')
            obtain ⟨fn, tmps, assign, body, hy, hR⟩ := hY pre (64 * t + Lib.ctz 64 L) wr hJ hlen
            have htz := tz_any L hlt' hz wr H1.tab
            have hT1 := H1.tab
            have hll := Bm.low_lt hz
            generalize Lib.ctz 64 L = z at *
            dsimp only [encNat] at hy
            rw [show ((64 * t + z : Nat) : Int) = (t : Int) * 64 + (z : Int) from by omega] at hy
            clear hL hr n4
            gi_wp2_with fail
            refine (callsIn_wide.2 htz).mono ?_
            rintro e w' ⟨rfl, rfl⟩
            gi_wp2
            refine hR.mono ?_
            rintro e W3 (⟨rfl, hJ3, hk3⟩ | ⟨rfl, hJx3⟩)
            · gi_wp2
              exact ⟨⟨_, _, _, by rw [Hoff.out], n5, Hn4.out.symm, hJ3, hk.trans hk3⟩, by rw [Hoff.out]; simp only [intOf]; omega⟩
            · gi_wp2
              refine bodyPost_ret (results_none rfl _ _ _) rfl ?_
              exact ⟨⟨_, rfl⟩, .inr ⟨_, Hr.out, hJx3⟩⟩
      · have hL := LeftOk.whole (m := m) (a := a) (t := t) (by omega)
        have hd : ((t : Int) == 0) = false := by simp; omega
        gi_wp2
        obtain ⟨wo, hwo⟩ : ∃ wo : World, wo = wr := ⟨_, rfl⟩
        gi_loopw [6] (fun s wr => ∃ (L c : Nat) (pre : List Nat), s = .int .u64 L ∧ LeftOk m a t c L ∧ Hid (pre = Bm.els m a c) ∧ J pre wr ∧ KpB n₁ S W wr) (fun s _ => (intOf s).toNat)
        case atStart => exact ⟨_, _, _, by first | rfl | (rw [hcut.out]), hL, Hpre.out, hJ, hk⟩
        case round =>
          obtain ⟨L, c, pre, rfl, hL, Hpre, hJ, hk⟩ := hrel
          have H1 := H.kpB hk hp hq hg
          by_cases hz : L = 0
          · subst hz
            gi_wp2
            exact ⟨⟨t + 1, pre, by omega, by go_num, Hpre.out.trans hL.done.symm, hJ, hk⟩, by simp [intOf]; omega⟩
          · obtain ⟨n1, n2, n3, n4, n5⟩ := hL.next hz
            have hlt' := hL.lt
            have hzb : ((L : Int) == 0) = false := by simp; omega
            obtain ⟨hr, hlen⟩ := next_len H.fits n1 n4
            rw [← Hpre.out] at hlen hr n4
            have Hr := Lib.hid hr
            have Hn4 := Lib.hid n4
            have Hoff := Lib.hid (off_int L hz hlt')
            obtain ⟨fn, tmps, assign, body, hy, hR⟩ := hY pre (64 * t + Lib.ctz 64 L) wr hJ hlen
            have htz := tz_any L hlt' hz wr H1.tab
            have hT1 := H1.tab
            have hll := Bm.low_lt hz
            generalize Lib.ctz 64 L = z at *
            dsimp only [encNat] at hy
            rw [show ((64 * t + z : Nat) : Int) = (t : Int) * 64 + (z : Int) from by omega] at hy
            clear hL hr n4
            gi_wp2_with fail
            refine (callsIn_wide.2 htz).mono ?_
            rintro e w' ⟨rfl, rfl⟩
            gi_wp2
            refine hR.mono ?_
            rintro e W3 (⟨rfl, hJ3, hk3⟩ | ⟨rfl, hJx3⟩)
            · gi_wp2
              exact ⟨⟨_, _, _, by rw [Hoff.out], n5, Hn4.out.symm, hJ3, hk.trans hk3⟩, by rw [Hoff.out]; simp only [intOf]; omega⟩
            · gi_wp2
              refine bodyPost_ret (results_none rfl _ _ _) rfl ?_
              exact ⟨⟨_, rfl⟩, .inr ⟨_, Hr.out, hJx3⟩⟩
    · gi_wp2
      go_end0
      exact ⟨⟨_, rfl⟩, .inl ⟨_, Hpre.out.trans (Bm.els_all H.fits (by unfold nWords at hlt; omega)), hJ⟩⟩

set_option maxRecDepth 100000 in
set_option maxHeartbeats 2000000 in
theorem from1_zero (n : Nat) (hn1 : 1 ≤ n) (l Bi Bb n₁ p q bound m a : Nat) (i : Int) (S : Nat → Prop) (ha : a = 0) (hi : i = 0)
    (hp : p < n₁ ∧ ¬ S p) (hq : q < n₁ ∧ ¬ S q) (hg : 0 < n₁ ∧ ¬ S 0) (hBi : Bi < n₁ ∧ ¬ S Bi) (hBb : Bb < n₁ ∧ ¬ S Bb)
    (J Jx : List Nat → World → Prop) (W : World) (hn : n₁ ≤ W.heap.size) (H : BitAt W p q bound m)
    (hY : ∀ pre x W1, J pre W1 → pre.length < (Bm.els m a bound).length → YieldAt Fence.wide (n - 1) Tryd.prog l (encNat x) W1 fun e W' =>
      (e = .returned (.bool true) ∧ J (pre ++ [x]) W' ∧ KpB n₁ S W1 W') ∨ (e = .returned (.bool false) ∧ Jx (pre ++ [x]) W'))
    (hci : W.cell? ⟨Bi, 0, none⟩ = some (.int .i64 i)) (hcb : W.cell? ⟨Bb, 0, none⟩ = some (.pointer (some ⟨p, 0, none⟩))) (h0 : J [] W) :
    CallsIn Fence.wide n Tryd.prog 19 #[.func (.yield l) #[] #[], .pointer (some ⟨Bi, 0, none⟩), .pointer (some ⟨Bb, 0, none⟩)] W fun e W' => (∃ v, e = .returned v) ∧
      ((∃ xs : List Nat, xs = Bm.els m a bound ∧ J xs W') ∨ (∃ pre, (∃ r, Bm.els m a bound = pre ++ r) ∧ Jx pre W')) := by
  subst hi
  have hfB : Fence.wide.fn 16 := trivial
  have hfT : Fence.wide.fn 20 := trivial
  have hle := H.le
  have hb : nWords bound ≤ 1024 := by unfold nWords; omega
  refine callsIn_of_wp Tryd.func19 rfl trivial ?_ rfl
  simp only [Tryd.ntmps19, List.size_toArray, List.length_cons, List.length_nil, Nat.reduceAdd, Nat.reduceSub, Array.replicate_succ, Array.replicate_zero, List.push_toArray, List.append_toArray, List.nil_append, List.cons_append]
  gi_wp2
  gi_loopw [5] (fun at' wr => ∃ (t : Nat) (pre : List Nat), a / 64 ≤ t ∧ at' = .int .i64 t ∧ Hid (pre = Bm.els m a (64 * t)) ∧ J pre wr ∧ KpB n₁ S W wr)
    (fun at' _ => nWords bound - (intOf at').toNat)
  case atStart => exact ⟨a / 64, [], Nat.le_refl _, by rw [ha]; rfl, (Bm.els_none (by omega)).symm, h0, KpB.refl _ _ _⟩
  case round =>
    obtain ⟨t, pre, ht, rfl, Hpre, hJ, hk⟩ := hrel
    have H1 := H.kpB hk hp hq hg
    have ci := (hk.cell (p := ⟨Bi, 0, none⟩) hBi.1 hBi.2).trans hci
    have cb := (hk.cell (p := ⟨Bb, 0, none⟩) hBb.1 hBb.2).trans hcb
    have c1 := H1.slot1
    by_cases hlt : t < nWords bound
    · have cw := H1.word hlt
      by_cases hf : t = 0
      · have hL := LeftOk.whole (m := m) (a := a) (t := t) (by omega)
        have hd : ((t : Int) == 0) = true := by simp; omega
        clear hf
        gi_wp2
        obtain ⟨wo, hwo⟩ : ∃ wo : World, wo = wr := ⟨_, rfl⟩
        gi_loopw [6] (fun s wr => ∃ (L c : Nat) (pre : List Nat), s = .int .u64 L ∧ LeftOk m a t c L ∧ Hid (pre = Bm.els m a c) ∧ J pre wr ∧ KpB n₁ S W wr) (fun s _ => (intOf s).toNat)
        case atStart => exact ⟨_, _, _, by first | rfl | (rw [hcut.out]), hL, Hpre.out, hJ, hk⟩
        case round =>
          obtain ⟨L, c, pre, rfl, hL, Hpre, hJ, hk⟩ := hrel
          have H1 := H.kpB hk hp hq hg
          by_cases hz : L = 0
          · subst hz
            gi_wp2
            exact ⟨⟨t + 1, pre, by omega, by go_num, Hpre.out.trans hL.done.symm, hJ, hk⟩, by simp [intOf]; omega⟩
          · obtain ⟨n1, n2, n3, n4, n5⟩ := hL.next hz
            have hlt' := hL.lt
            have hzb : ((L : Int) == 0) = false := by simp; omega
            obtain ⟨hr, hlen⟩ := next_len H.fits n1 n4
            rw [← Hpre.out] at hlen hr n4
            have Hr := Lib.hid hr
            have Hn4 := Lib.hid n4
            have Hoff := Lib.hid (off_int L hz hlt')
            obtain ⟨fn, tmps, assign, body, hy, hR⟩ := hY pre (64 * t + Lib.ctz 64 L) wr hJ hlen
            have htz := tz_any L hlt' hz wr H1.tab
            have hT1 := H1.tab
            have hll := Bm.low_lt hz
            generalize Lib.ctz 64 L = z at *
            dsimp only [encNat] at hy
            rw [show ((64 * t + z : Nat) : Int) = (t : Int) * 64 + (z : Int) from by omega] at hy
            clear hL hr n4
            gi_wp2_with fail
            refine (callsIn_wide.2 htz).mono ?_
            rintro e w' ⟨rfl, rfl⟩
            gi_wp2
            refine hR.mono ?_
            rintro e W3 (⟨rfl, hJ3, hk3⟩ | ⟨rfl, hJx3⟩)
            · gi_wp2
              exact ⟨⟨_, _, _, by rw [Hoff.out], n5, Hn4.out.symm, hJ3, hk.trans hk3⟩, by rw [Hoff.out]; simp only [intOf]; omega⟩
            · gi_wp2
              refine bodyPost_ret (results_none rfl _ _ _) rfl ?_
              exact ⟨⟨_, rfl⟩, .inr ⟨_, Hr.out, hJx3⟩⟩
      · have hL := LeftOk.whole (m := m) (a := a) (t := t) (by omega)
        have hd : ((t : Int) == 0) = false := by simp; omega
        gi_wp2
        obtain ⟨wo, hwo⟩ : ∃ wo : World, wo = wr := ⟨_, rfl⟩
        gi_loopw [6] (fun s wr => ∃ (L c : Nat) (pre : List Nat), s = .int .u64 L ∧ LeftOk m a t c L ∧ Hid (pre = Bm.els m a c) ∧ J pre wr ∧ KpB n₁ S W wr) (fun s _ => (intOf s).toNat)
        case atStart => exact ⟨_, _, _, by first | rfl | (rw [hcut.out]), hL, Hpre.out, hJ, hk⟩
        case round =>
          obtain ⟨L, c, pre, rfl, hL, Hpre, hJ, hk⟩ := hrel
          have H1 := H.kpB hk hp hq hg
          by_cases hz : L = 0
          · subst hz
            gi_wp2
            exact ⟨⟨t + 1, pre, by omega, by go_num, Hpre.out.trans hL.done.symm, hJ, hk⟩, by simp [intOf]; omega⟩
          · obtain ⟨n1, n2, n3, n4, n5⟩ := hL.next hz
            have hlt' := hL.lt
            have hzb : ((L : Int) == 0) = false := by simp; omega
            obtain ⟨hr, hlen⟩ := next_len H.fits n1 n4
            rw [← Hpre.out] at hlen hr n4
            have Hr := Lib.hid hr
            have Hn4 := Lib.hid n4
            have Hoff := Lib.hid (off_int L hz hlt')
            obtain ⟨fn, tmps, assign, body, hy, hR⟩ := hY pre (64 * t + Lib.ctz 64 L) wr hJ hlen
            have htz := tz_any L hlt' hz wr H1.tab
            have hT1 := H1.tab
            have hll := Bm.low_lt hz
            generalize Lib.ctz 64 L = z at *
            dsimp only [encNat] at hy
            rw [show ((64 * t + z : Nat) : Int) = (t : Int) * 64 + (z : Int) from by omega] at hy
            clear hL hr n4
            gi_wp2_with fail
            refine (callsIn_wide.2 htz).mono ?_
            rintro e w' ⟨rfl, rfl⟩
            gi_wp2
            refine hR.mono ?_
            rintro e W3 (⟨rfl, hJ3, hk3⟩ | ⟨rfl, hJx3⟩)
            · gi_wp2
              exact ⟨⟨_, _, _, by rw [Hoff.out], n5, Hn4.out.symm, hJ3, hk.trans hk3⟩, by rw [Hoff.out]; simp only [intOf]; omega⟩
            · gi_wp2
              refine bodyPost_ret (results_none rfl _ _ _) rfl ?_
              exact ⟨⟨_, rfl⟩, .inr ⟨_, Hr.out, hJx3⟩⟩
    · gi_wp2
      go_end0
      exact ⟨⟨_, rfl⟩, .inl ⟨_, Hpre.out.trans (Bm.els_all H.fits (by unfold nWords at hlt; omega)), hJ⟩⟩

theorem from_any (n p : Nat) (i : Int) (w : World) :
    CallsIn Fence.wide n Tryd.prog 18 #[.pointer (some ⟨p, 0, none⟩), .int .i64 i] w fun e w' => e = .returned (.func (.func 19) #[] #[.pointer (some ⟨w.heap.size + 1, 0, none⟩), .pointer (some ⟨w.heap.size, 0, none⟩)]) ∧
      w' = (w.alloc (.cells #[.pointer (some ⟨p, 0, none⟩)] 24)).alloc (.cells #[.int .i64 i] 3) := by
  refine callsIn_of_wp Tryd.func18 rfl trivial ?_ rfl
  simp only [Tryd.ntmps18, List.size_toArray, List.length_cons, List.length_nil, Nat.reduceAdd, Nat.reduceSub, Array.replicate_succ, Array.replicate_zero, List.push_toArray, List.append_toArray, List.nil_append, List.cons_append]
  gi_wp2
  go_ret
  exact ⟨rfl, rfl⟩

/-- The iterator keeps its word: all that is in from a on, or a part of it from the first on. -/
theorem from_stops (n : Nat) (hn1 : 1 ≤ n) (Bi Bb n₁ p q bound m : Nat) (i : Int) (S : Nat → Prop) (i0 : -9223372036854775808 ≤ i) (i1 : i ≤ 9223372036854775807)
    (hp : p < n₁ ∧ ¬ S p) (hq : q < n₁ ∧ ¬ S q) (hg : 0 < n₁ ∧ ¬ S 0) (hBi : Bi < n₁ ∧ ¬ S Bi) (hBb : Bb < n₁ ∧ ¬ S Bb)
    (w : World) (hn : n₁ ≤ w.heap.size) (H : BitAt w p q bound m) (hci : w.cell? ⟨Bi, 0, none⟩ = some (.int .i64 i)) (hcb : w.cell? ⟨Bb, 0, none⟩ = some (.pointer (some ⟨p, 0, none⟩))) :
    SeqStopsK Fence.wide n Tryd.prog 19 #[.pointer (some ⟨Bi, 0, none⟩), .pointer (some ⟨Bb, 0, none⟩)] encNat (KpB n₁ S) (fun xs => xs = Bm.els m i.toNat bound) (fun pre => ∃ r, Bm.els m i.toNat bound = pre ++ r) (Bm.els m i.toNat bound).length w := fun l J Jx W hW hJ _ hY h0 => by
  have H' := H.below hW (by omega) (by omega) (by omega)
  have hci' := (hW.cell (p := ⟨Bi, 0, none⟩) (by show Bi < _; omega)).trans hci
  have hcb' := (hW.cell (p := ⟨Bb, 0, none⟩) (by show Bb < _; omega)).trans hcb
  have hs := hW.size
  rcases Int.lt_trichotomy i 0 with h | h | h
  · exact from1_neg n hn1 l Bi Bb n₁ p q bound m _ i S (by omega) h i0 hp hq hg hBi hBb J Jx W (by omega) H' hY hci' hcb' h0
  · exact from1_zero n hn1 l Bi Bb n₁ p q bound m _ i S (by omega) h hp hq hg hBi hBb J Jx W (by omega) H' hY hci' hcb' h0
  · exact from1_pos n hn1 l Bi Bb n₁ p q bound m _ i S (by omega) h i1 hp hq hg hBi hBb J Jx W (by omega) H' hY hci' hcb' h0

theorem ownFrom_pure {β : Type} {B : Nat} (P : β → Prop) : OwnFrom B (fun s (_ : World) => P s) := fun _ _ _ _ h _ _ => h

end Go.Proofs.YtcggjfljpoeanaaDoor
