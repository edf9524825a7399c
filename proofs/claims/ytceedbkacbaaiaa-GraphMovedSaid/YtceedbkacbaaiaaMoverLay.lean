/- Layer 8's laws' Lay: it lays objects one behind the other from word 1 on, at most eight, as many as go into 150 words, and tells where. Condition: the raw objects lie in blocks below the arena's; there are words enough. -/
import Derived.Test.YtceedbkacbaaiaaMoverLaw
import Derived.Test.YtceedbkacbaaiaaRaw
import Derived.Test.YtceedbkacbaaiaaBlk
import Derived.Deep.CutRange
import Derived.Deep.RegionHeld3
namespace Go.Proofs.Ytceedbkacbaaiaa
open Go.ChangeShapes Go.WideShapes Go.ChangeAt Go.RowKit

set_option linter.unusedSimpArgs false
set_option linter.unusedVariables false

section
variable {P b : Nat} {l : List Int} {p d : Nat} {wk fn fr : Bool}
theorem set_out {l : List Int} {a n i : Nat} {x : Int} (h : a + 3 ≤ i ∧ i < a + n) : ∀ j, ¬ (a + 3 ≤ j ∧ j < a + n) → (l.set i x).getD j 0 = l.getD j 0 := fun j hj => by
  rw [List.getD_eq_getElem?_getD, List.getElem?_set, if_neg (by omega), List.getD_eq_getElem?_getD]
theorem setPtr_some (a i v : Nat) (w : World) (h : ArenaAt 65 w P b l) (o : ObjIs l a p d wk fn fr) (hi : i ≤ 8) (hv : v ≤ 131072) :
    Calls Try.prog 21 #[.pointer (some ⟨P, 0, none⟩), .int .i64 a, .int .i64 i, .int .i64 v] w fun e w' => ∃ (er : Int) (l' : List Int), e = .returned (.int .i64 er) ∧ ArenaAt 65 w' P b l' ∧ l'.length = l.length ∧ (∀ j, ¬ (a + 3 ≤ j ∧ j < a + (3 + p + d)) → l'.getD j 0 = l.getD j 0) ∧ Chg (· = b) w w' := by
  by_cases hp : i < p
  · refine (setPtr_at a i v w h o hp hv).mono ?_
    rintro e x ⟨rfl, hA, hc⟩
    exact ⟨_, _, rfl, hA, by simp, set_out (by omega), hc⟩
  · refine (setPtr_no a i v w h o (by omega) (by omega) (by omega)).mono ?_
    rintro e x ⟨rfl, hb⟩
    exact ⟨_, _, rfl, h.below hb h.lt.1 h.lt.2, rfl, fun _ _ => rfl, Chg.of_below hb (Nat.le_refl _)⟩
theorem setNum_some (a i : Nat) (n : Int) (w : World) (h : ArenaAt 65 w P b l) (o : ObjIs l a p d wk fn fr) (hi : i ≤ 8) (n0 : -9223372036854775808 ≤ n) (n1 : n ≤ 9223372036854775807) :
    Calls Try.prog 28 #[.pointer (some ⟨P, 0, none⟩), .int .i64 a, .int .i64 i, .int .i64 n] w fun e w' => ∃ (er : Int) (l' : List Int), e = .returned (.int .i64 er) ∧ ArenaAt 65 w' P b l' ∧ l'.length = l.length ∧ (∀ j, ¬ (a + 3 ≤ j ∧ j < a + (3 + p + d)) → l'.getD j 0 = l.getD j 0) ∧ Chg (· = b) w w' := by
  by_cases hp : i < d
  · refine (setNum_at a i n w h o hp n0 n1).mono ?_
    rintro e x ⟨rfl, hA, hc⟩
    exact ⟨_, _, rfl, hA, by simp, set_out (by omega), hc⟩
  · refine (setNum_no a i n w h o (by omega) (by omega) (by omega) n0 n1).mono ?_
    rintro e x ⟨rfl, hb⟩
    exact ⟨_, _, rfl, h.below hb h.lt.1 h.lt.2, rfl, fun _ _ => rfl, Chg.of_below hb (Nat.le_refl _)⟩
end

/-- The shapes that the raw objects speak of. -/
theorem fits_obs (f : Nat → RawN) (n : Nat) (h : ∀ i, i < n → RawFits (f i)) : ∃ os : Nat → Ob, ∀ i, i < n → FitIs (f i).s0 (f i).s1 (f i).s2 (os i).p (os i).d (os i).wk (os i).fn ∧ (os i).fr = (f i).fr := by
  have _inh : Inhabited Ob := ⟨⟨0, 0, false, false, false⟩⟩
  have key : ∀ i, i < n → ∃ o : Ob, FitIs (f i).s0 (f i).s1 (f i).s2 o.p o.d o.wk o.fn ∧ o.fr = (f i).fr := fun i hi => by
    obtain ⟨h0, h1, h2⟩ := h i hi
    obtain ⟨p, d, wk, fn, F⟩ := fit_sh (f i).s0 (f i).s1 (f i).s2 h0 h1 h2
    exact ⟨⟨p, d, wk, fn, (f i).fr⟩, F, rfl⟩
  exact Deep.choose_lt key

theorem RawAt.on {w w' : World} {b o n : Nat} {x : RawN} (h : RawAt w b o x) (hb : Below n w w') (hlt : b < n) : RawAt w' b o x := by
  obtain ⟨c0, c1, c2, c3, c4⟩ := h
  exact ⟨(hb.cell (p := ⟨b, _, none⟩) hlt).trans c0, (hb.cell (p := ⟨b, _, none⟩) hlt).trans c1, (hb.cell (p := ⟨b, _, none⟩) hlt).trans c2, (hb.cell (p := ⟨b, _, none⟩) hlt).trans c3, (hb.cell (p := ⟨b, _, none⟩) hlt).trans c4⟩
/-- What a region reads of a raw object's shape. -/
abbrev RawS (rb o : Nat) (x : RawN) (w y : World) : Prop :=
  (y.cell? ⟨rb, o, none⟩ = some (.int .i64 x.s0) ∧ y.cell? ⟨rb, o + 1, none⟩ = some (.int .i64 x.s1) ∧ y.cell? ⟨rb, o + 2, none⟩ = some (.int .i64 x.s2)) ∧ Below w.heap.size w y
theorem RawS.on {rb o : Nat} {x : RawN} {w y z : World} (h : RawS rb o x w y) (hb : Below y.heap.size y z) : RawS rb o x w z := by
  obtain ⟨⟨c0, c1, c2⟩, hB⟩ := h
  have hl : rb < y.heap.size := World.block_lt_of_cell? y ⟨rb, o, none⟩ (by rw [c0])
  exact ⟨⟨(hb.cell (p := ⟨rb, o, none⟩) hl).trans c0, (hb.cell (p := ⟨rb, o + 1, none⟩) hl).trans c1, (hb.cell (p := ⟨rb, o + 2, none⟩) hl).trans c2⟩, hB.trans (hb.mono hB.size)⟩

theorem RawS.set {rb o : Nat} {x : RawN} {w y : World} (h : RawS rb o x w y) (hr : rb < w.heap.size) {a : Addr} (ha : w.heap.size ≤ a.block) (v : Value) : RawS rb o x w (y.setCell a v) := by
  obtain ⟨⟨c0, c1, c2⟩, hB⟩ := h
  have hb := (Below.refl w.heap.size y).setCell (p := a) ha v
  exact ⟨⟨(hb.cell (p := ⟨rb, o, none⟩) hr).trans c0, (hb.cell (p := ⟨rb, o + 1, none⟩) hr).trans c1, (hb.cell (p := ⟨rb, o + 2, none⟩) hr).trans c2⟩, hB.setCell ha v⟩

set_option maxRecDepth 100000 in
set_option maxHeartbeats 8000000 in
theorem lay_more (n₀ P b N rl rc : Nat) (ra : Option Addr) (f : Nat → RawN) (l₀ : List Int) (W : World) (hA0 : ArenaAt 65 W P b l₀) (hN : l₀.length = N) (hN1 : 151 ≤ N) (hnb : n₀ ≤ b) (hn : n₀ ≤ W.heap.size) (hR : RawsAt n₀ W ra rl f) :
    Calls Try.prog 8 #[.pointer (some ⟨P, 0, none⟩), .slice ra rl rc] W fun e w' => ∃ (sv : Value) (m : Nat) (os : Nat → Ob) (l : List Int), e = .returned sv ∧ m ≤ 8 ∧ ArenaAt 65 w' P b l ∧ l.length = N ∧ ObsAt l 1 os m ∧ off os m ≤ 150 ∧
      w'.ownsRow W.heap.size 3 1 sv m (valsN (plc os 1 m)) ∧ Chg (· = b) W w' ∧ m ≤ rl ∧ (∀ j, j < m → l.getD (1 + off os j + 2) 0 = ((j + 1 : Nat) : Int)) ∧ l.getD 0 0 = l₀.getD 0 0 := by
  obtain ⟨i0, hi, hz0, hz1, hz2⟩ := info_parts infoInt
  have hNl := hA0.len
  have hlt := hA0.lt
  obtain ⟨os, hos⟩ : ∃ os : Nat → Ob, ∀ i, i < rl → FitIs (f i).s0 (f i).s1 (f i).s2 (os i).p (os i).d (os i).wk (os i).fn ∧ (os i).fr = (f i).fr := by
    refine fits_obs f rl fun i hi => ?_
    rcases hR with h | ⟨_, _, _, _, _, h⟩
    · omega
    · exact (h i hi).2.1
  have Hos := Lib.hid hos
  have HR := Lib.hid hR
  clear hos hR
  go_enter Try.func8, Try.ntmps8
  go_wp2_with fail
  refine (make_ok 1 150 ⟨by omega, by omega, by omega, by omega⟩ _).mono ?_
  rintro e x ⟨rfl, hb⟩
  have k5 := BlkIs.new x #[.int .i64 1, .int .i64 150, .int .i64 1] 41
  have hB := hb.alloc hb.size (.cells #[.int .i64 1, .int .i64 150, .int .i64 1] 41)
  have hxs := hb.size
  go_wp2
  obtain ⟨q5, hq5⟩ : ∃ q, x.heap.size = q := ⟨_, rfl⟩
  obtain ⟨w1, hw1⟩ : ∃ w1, x.alloc (.cells #[.int .i64 1, .int .i64 150, .int .i64 1] 41) = w1 := ⟨_, rfl⟩
  rw [hw1] at k5 hB ⊢
  rw [hq5] at k5 hxs ⊢
  have hA1 := hA0.below hB hlt.1 hlt.2
  obtain ⟨B2, hB2⟩ : ∃ B, w1.heap.size = B := ⟨_, rfl⟩
  have h5 := k5.lt
  have nb5 : ¬ q5 = b := by omega
  have HB2 := Lib.hid (show W.heap.size ≤ q5 ∧ q5 < B2 ∧ B2 = w1.heap.size by omega)
  have hC1 := Chg.of_below (S := (· = b)) hB (Nat.le_refl _)
  clear hw1 hq5 hb hB hB2 h5 hxs x
  go_loopw [7, 8] (fun out i wr => ∃ (k : Nat) (l : List Int), k ≤ rl ∧ k ≤ 8 ∧ i = .int .i64 k ∧ l.length = N ∧ ArenaAt 65 wr P b l ∧ ObsAt l 1 os k ∧ off os k ≤ 150 ∧ BlkIs wr q5 #[.int .i64 1, .int .i64 150, .int .i64 (1 + off os k : Nat)] 41 ∧ wr.ownsRow B2 3 1 out k (valsN (plc os 1 k)) ∧ w1.heap.size ≤ wr.heap.size ∧ Chg (· = b) W wr ∧ (∀ j, j < k → l.getD (1 + off os j + 2) 0 = ((j + 1 : Nat) : Int)) ∧ l.getD 0 0 = l₀.getD 0 0) (fun _ i _ => 8 - (intOf i).toNat)
  case atStart => exact ⟨0, l₀, by omega, by omega, rfl, hN, hA1, fun _ h => by omega, Nat.zero_le _, k5, World.ownsRow_nil _ _ _ _, Nat.le_refl _, hC1, fun _ h => by omega, rfl⟩
  case round =>
    clear k5 hA1 hC1
    obtain ⟨k, l, hk, hk8, rfl, hlN, hA, hobs, hoff, k5, hown, hsz, hC, hser, hl0⟩ := hrel
    have Hser := Lib.hid hser
    have Hl0 := Lib.hid hl0
    clear hser hl0
    by_cases h1 : k < rl
    · by_cases h2 : k < 8
      · obtain ⟨hF, hfr⟩ := Hos.out k h1
        obtain ⟨r1, p1, d1, HF⟩ := hF
        have hbn : Below n₀ W wr := hC.below (fun k e => by omega) hn
        rcases HR.out with h | ⟨rb, ro, rfl, hrb, hrm, hcell⟩
        · omega
        · obtain ⟨hraw, -, hrow⟩ := hcell k h1
          obtain ⟨c0, c1, c2, c3, c4⟩ := hraw.on hbn hrb
          clear hcell
          have j0 : (0 : Int) ≤ (k : Int) := by omega
          have j1 : (k : Int) < (rl : Int) := by omega
          have j2 : decide ((k : Int) < 8) = true := decide_eq_true (by omega)
          have hrw : rb < wr.heap.size := by have := hC.size; omega
          go_upto_region 6 with fail
          go_cut [9] from 18 to 121 (fun s9 wx => ∃ g : Nat, s9 = .pointer (some ⟨g, 0, none⟩) ∧ wr.heap.size ≤ g ∧ BlkIs wx g #[.int .i64 (os k).p, .int .i64 (os k).d, .bool (os k).wk, .bool (os k).fn] 51 ∧ Below wr.heap.size wr wx)
          case first =>
            refine wp_region_noPanic ?_
            refine wp_region_held_drew (S := fun y => RawS rb (ro + k * 5) (f k) wr y) (by kernel_rfl) ⟨⟨c0, c1, c2⟩, (Below.refl _ _).drew⟩ (fun hS => ?_)
            clear c0 c1 c2 c3 c4
            first
            | (refine wpAnyH_take (i := 0) (v := ?_) rfl (by kernel_rfl) (by kernel_rfl) (by kernel_rfl) (fun _ _ _ h => h) (Or.inl ⟨by rfl, ?_⟩) hS ?_; rotate_left; (· (intro y hy; (try dsimp only at hy); go_simp; try with_reducible rfl)); try simp only [Act.put, List.setIfInBounds_toArray, List.set_cons_zero, List.set_cons_succ, List.getElem_toArray, List.getElem_cons_zero, List.getElem_cons_succ])
            | (refine wpAnyH_take (i := 0) (v := undef) rfl (by kernel_rfl) (by kernel_rfl) (by kernel_rfl) (fun _ _ _ h => h) (Or.inr ⟨by rfl, rfl⟩) hS ?_; try simp only [Act.put, List.setIfInBounds_toArray, List.set_cons_zero, List.set_cons_succ, List.getElem_toArray, List.getElem_cons_zero, List.getElem_cons_succ])
            first
            | (refine wpAnyH_take (i := 1) (v := ?_) rfl (by kernel_rfl) (by kernel_rfl) (by kernel_rfl) (fun _ _ _ h => h) (Or.inl ⟨by rfl, ?_⟩) hS ?_; rotate_left; (· (intro y hy; (try dsimp only at hy); go_simp; try with_reducible rfl)); try simp only [Act.put, List.setIfInBounds_toArray, List.set_cons_zero, List.set_cons_succ, List.getElem_toArray, List.getElem_cons_zero, List.getElem_cons_succ])
            | (refine wpAnyH_take (i := 1) (v := undef) rfl (by kernel_rfl) (by kernel_rfl) (by kernel_rfl) (fun _ _ _ h => h) (Or.inr ⟨by rfl, rfl⟩) hS ?_; try simp only [Act.put, List.setIfInBounds_toArray, List.set_cons_zero, List.set_cons_succ, List.getElem_toArray, List.getElem_cons_zero, List.getElem_cons_succ])
            first
            | (refine wpAnyH_take (i := 2) (v := ?_) rfl (by kernel_rfl) (by kernel_rfl) (by kernel_rfl) (fun _ _ _ h => h) (Or.inl ⟨by rfl, ?_⟩) hS ?_; rotate_left; (· (intro y hy; (try dsimp only at hy); go_simp; try with_reducible rfl)); try simp only [Act.put, List.setIfInBounds_toArray, List.set_cons_zero, List.set_cons_succ, List.getElem_toArray, List.getElem_cons_zero, List.getElem_cons_succ])
            | (refine wpAnyH_take (i := 2) (v := undef) rfl (by kernel_rfl) (by kernel_rfl) (by kernel_rfl) (fun _ _ _ h => h) (Or.inr ⟨by rfl, rfl⟩) hS ?_; try simp only [Act.put, List.setIfInBounds_toArray, List.set_cons_zero, List.set_cons_succ, List.getElem_toArray, List.getElem_cons_zero, List.getElem_cons_succ])
            first
            | (refine wpAnyH_take (i := 3) (v := ?_) rfl (by kernel_rfl) (by kernel_rfl) (by kernel_rfl) (fun _ _ _ h => h) (Or.inl ⟨by rfl, ?_⟩) hS ?_; rotate_left; (· (intro y hy; (try dsimp only at hy); go_simp; try with_reducible rfl)); try simp only [Act.put, List.setIfInBounds_toArray, List.set_cons_zero, List.set_cons_succ, List.getElem_toArray, List.getElem_cons_zero, List.getElem_cons_succ])
            | (refine wpAnyH_take (i := 3) (v := undef) rfl (by kernel_rfl) (by kernel_rfl) (by kernel_rfl) (fun _ _ _ h => h) (Or.inr ⟨by rfl, rfl⟩) hS ?_; try simp only [Act.put, List.setIfInBounds_toArray, List.set_cons_zero, List.set_cons_succ, List.getElem_toArray, List.getElem_cons_zero, List.getElem_cons_succ])
            first
            | (refine wpAnyH_take (i := 4) (v := ?_) rfl (by kernel_rfl) (by kernel_rfl) (by kernel_rfl) (fun _ _ _ h => h) (Or.inl ⟨by rfl, ?_⟩) hS ?_; rotate_left; (· (intro y hy; (try dsimp only at hy); go_simp; try with_reducible rfl)); try simp only [Act.put, List.setIfInBounds_toArray, List.set_cons_zero, List.set_cons_succ, List.getElem_toArray, List.getElem_cons_zero, List.getElem_cons_succ])
            | (refine wpAnyH_take (i := 4) (v := undef) rfl (by kernel_rfl) (by kernel_rfl) (by kernel_rfl) (fun _ _ _ h => h) (Or.inr ⟨by rfl, rfl⟩) hS ?_; try simp only [Act.put, List.setIfInBounds_toArray, List.set_cons_zero, List.set_cons_succ, List.getElem_toArray, List.getElem_cons_zero, List.getElem_cons_succ])
            first
            | (refine wpAnyH_take (i := 5) (v := ?_) rfl (by kernel_rfl) (by kernel_rfl) (by kernel_rfl) (fun _ _ _ h => h) (Or.inl ⟨by rfl, ?_⟩) hS ?_; rotate_left; (· (intro y hy; (try dsimp only at hy); go_simp; try with_reducible rfl)); try simp only [Act.put, List.setIfInBounds_toArray, List.set_cons_zero, List.set_cons_succ, List.getElem_toArray, List.getElem_cons_zero, List.getElem_cons_succ])
            | (refine wpAnyH_take (i := 5) (v := undef) rfl (by kernel_rfl) (by kernel_rfl) (by kernel_rfl) (fun _ _ _ h => h) (Or.inr ⟨by rfl, rfl⟩) hS ?_; try simp only [Act.put, List.setIfInBounds_toArray, List.set_cons_zero, List.set_cons_succ, List.getElem_toArray, List.getElem_cons_zero, List.getElem_cons_succ])
            first
            | (refine wpAnyH_take (i := 6) (v := ?_) rfl (by kernel_rfl) (by kernel_rfl) (by kernel_rfl) (fun _ _ _ h => h) (Or.inl ⟨by rfl, ?_⟩) hS ?_; rotate_left; (· (intro y hy; (try dsimp only at hy); go_simp; try with_reducible rfl)); try simp only [Act.put, List.setIfInBounds_toArray, List.set_cons_zero, List.set_cons_succ, List.getElem_toArray, List.getElem_cons_zero, List.getElem_cons_succ])
            | (refine wpAnyH_take (i := 6) (v := undef) rfl (by kernel_rfl) (by kernel_rfl) (by kernel_rfl) (fun _ _ _ h => h) (Or.inr ⟨by rfl, rfl⟩) hS ?_; try simp only [Act.put, List.setIfInBounds_toArray, List.set_cons_zero, List.set_cons_succ, List.getElem_toArray, List.getElem_cons_zero, List.getElem_cons_succ])
            first
            | (refine wpAnyH_take (i := 7) (v := ?_) rfl (by kernel_rfl) (by kernel_rfl) (by kernel_rfl) (fun _ _ _ h => h) (Or.inl ⟨by rfl, ?_⟩) hS ?_; rotate_left; (· (intro y hy; (try dsimp only at hy); go_simp; try with_reducible rfl)); try simp only [Act.put, List.setIfInBounds_toArray, List.set_cons_zero, List.set_cons_succ, List.getElem_toArray, List.getElem_cons_zero, List.getElem_cons_succ])
            | (refine wpAnyH_take (i := 7) (v := undef) rfl (by kernel_rfl) (by kernel_rfl) (by kernel_rfl) (fun _ _ _ h => h) (Or.inr ⟨by rfl, rfl⟩) hS ?_; try simp only [Act.put, List.setIfInBounds_toArray, List.set_cons_zero, List.set_cons_succ, List.getElem_toArray, List.getElem_cons_zero, List.getElem_cons_succ])
            first
            | (refine wpAnyH_take (i := 8) (v := ?_) rfl (by kernel_rfl) (by kernel_rfl) (by kernel_rfl) (fun _ _ _ h => h) (Or.inl ⟨by rfl, ?_⟩) hS ?_; rotate_left; (· (intro y hy; (try dsimp only at hy); go_simp; try with_reducible rfl)); try simp only [Act.put, List.setIfInBounds_toArray, List.set_cons_zero, List.set_cons_succ, List.getElem_toArray, List.getElem_cons_zero, List.getElem_cons_succ])
            | (refine wpAnyH_take (i := 8) (v := undef) rfl (by kernel_rfl) (by kernel_rfl) (by kernel_rfl) (fun _ _ _ h => h) (Or.inr ⟨by rfl, rfl⟩) hS ?_; try simp only [Act.put, List.setIfInBounds_toArray, List.set_cons_zero, List.set_cons_succ, List.getElem_toArray, List.getElem_cons_zero, List.getElem_cons_succ])
            first
            | (refine wpAnyH_take (i := 9) (v := ?_) rfl (by kernel_rfl) (by kernel_rfl) (by kernel_rfl) (fun _ _ _ h => h) (Or.inl ⟨by rfl, ?_⟩) hS ?_; rotate_left; (· (intro y hy; (try dsimp only at hy); go_simp; try with_reducible rfl)); try simp only [Act.put, List.setIfInBounds_toArray, List.set_cons_zero, List.set_cons_succ, List.getElem_toArray, List.getElem_cons_zero, List.getElem_cons_succ])
            | (refine wpAnyH_take (i := 9) (v := undef) rfl (by kernel_rfl) (by kernel_rfl) (by kernel_rfl) (fun _ _ _ h => h) (Or.inr ⟨by rfl, rfl⟩) hS ?_; try simp only [Act.put, List.setIfInBounds_toArray, List.set_cons_zero, List.set_cons_succ, List.getElem_toArray, List.getElem_cons_zero, List.getElem_cons_succ])
            first
            | (refine wpAnyH_take (i := 10) (v := ?_) rfl (by kernel_rfl) (by kernel_rfl) (by kernel_rfl) (fun _ _ _ h => h) (Or.inl ⟨by rfl, ?_⟩) hS ?_; rotate_left; (· (intro y hy; (try dsimp only at hy); go_simp; try with_reducible rfl)); try simp only [Act.put, List.setIfInBounds_toArray, List.set_cons_zero, List.set_cons_succ, List.getElem_toArray, List.getElem_cons_zero, List.getElem_cons_succ])
            | (refine wpAnyH_take (i := 10) (v := undef) rfl (by kernel_rfl) (by kernel_rfl) (by kernel_rfl) (fun _ _ _ h => h) (Or.inr ⟨by rfl, rfl⟩) hS ?_; try simp only [Act.put, List.setIfInBounds_toArray, List.set_cons_zero, List.set_cons_succ, List.getElem_toArray, List.getElem_cons_zero, List.getElem_cons_succ])
            first
            | (refine wpAnyH_take (i := 11) (v := ?_) rfl (by kernel_rfl) (by kernel_rfl) (by kernel_rfl) (fun _ _ _ h => h) (Or.inl ⟨by rfl, ?_⟩) hS ?_; rotate_left; (· (intro y hy; (try dsimp only at hy); go_simp; try with_reducible rfl)); try simp only [Act.put, List.setIfInBounds_toArray, List.set_cons_zero, List.set_cons_succ, List.getElem_toArray, List.getElem_cons_zero, List.getElem_cons_succ])
            | (refine wpAnyH_take (i := 11) (v := undef) rfl (by kernel_rfl) (by kernel_rfl) (by kernel_rfl) (fun _ _ _ h => h) (Or.inr ⟨by rfl, rfl⟩) hS ?_; try simp only [Act.put, List.setIfInBounds_toArray, List.set_cons_zero, List.set_cons_succ, List.getElem_toArray, List.getElem_cons_zero, List.getElem_cons_succ])
            first
            | (refine wpAnyH_take (i := 12) (v := ?_) rfl (by kernel_rfl) (by kernel_rfl) (by kernel_rfl) (fun _ _ _ h => h) (Or.inl ⟨by rfl, ?_⟩) hS ?_; rotate_left; (· (intro y hy; (try dsimp only at hy); go_simp; try with_reducible rfl)); try simp only [Act.put, List.setIfInBounds_toArray, List.set_cons_zero, List.set_cons_succ, List.getElem_toArray, List.getElem_cons_zero, List.getElem_cons_succ])
            | (refine wpAnyH_take (i := 12) (v := undef) rfl (by kernel_rfl) (by kernel_rfl) (by kernel_rfl) (fun _ _ _ h => h) (Or.inr ⟨by rfl, rfl⟩) hS ?_; try simp only [Act.put, List.setIfInBounds_toArray, List.set_cons_zero, List.set_cons_succ, List.getElem_toArray, List.getElem_cons_zero, List.getElem_cons_succ])
            first
            | (refine wpAnyH_take (i := 13) (v := ?_) rfl (by kernel_rfl) (by kernel_rfl) (by kernel_rfl) (fun _ _ _ h => h) (Or.inl ⟨by rfl, ?_⟩) hS ?_; rotate_left; (· (intro y hy; (try dsimp only at hy); go_simp; try with_reducible rfl)); try simp only [Act.put, List.setIfInBounds_toArray, List.set_cons_zero, List.set_cons_succ, List.getElem_toArray, List.getElem_cons_zero, List.getElem_cons_succ])
            | (refine wpAnyH_take (i := 13) (v := undef) rfl (by kernel_rfl) (by kernel_rfl) (by kernel_rfl) (fun _ _ _ h => h) (Or.inr ⟨by rfl, rfl⟩) hS ?_; try simp only [Act.put, List.setIfInBounds_toArray, List.set_cons_zero, List.set_cons_succ, List.getElem_toArray, List.getElem_cons_zero, List.getElem_cons_succ])
            first
            | (refine wpAnyH_take (i := 14) (v := ?_) rfl (by kernel_rfl) (by kernel_rfl) (by kernel_rfl) (fun _ _ _ h => h) (Or.inl ⟨by rfl, ?_⟩) hS ?_; rotate_left; (· (intro y hy; (try dsimp only at hy); go_simp; try with_reducible rfl)); try simp only [Act.put, List.setIfInBounds_toArray, List.set_cons_zero, List.set_cons_succ, List.getElem_toArray, List.getElem_cons_zero, List.getElem_cons_succ])
            | (refine wpAnyH_take (i := 14) (v := undef) rfl (by kernel_rfl) (by kernel_rfl) (by kernel_rfl) (fun _ _ _ h => h) (Or.inr ⟨by rfl, rfl⟩) hS ?_; try simp only [Act.put, List.setIfInBounds_toArray, List.set_cons_zero, List.set_cons_succ, List.getElem_toArray, List.getElem_cons_zero, List.getElem_cons_succ])
            first
            | (refine wpAnyH_take (i := 15) (v := ?_) rfl (by kernel_rfl) (by kernel_rfl) (by kernel_rfl) (fun _ _ _ h => h) (Or.inl ⟨by rfl, ?_⟩) hS ?_; rotate_left; (· (intro y hy; (try dsimp only at hy); go_simp; try with_reducible rfl)); try simp only [Act.put, List.setIfInBounds_toArray, List.set_cons_zero, List.set_cons_succ, List.getElem_toArray, List.getElem_cons_zero, List.getElem_cons_succ])
            | (refine wpAnyH_take (i := 15) (v := undef) rfl (by kernel_rfl) (by kernel_rfl) (by kernel_rfl) (fun _ _ _ h => h) (Or.inr ⟨by rfl, rfl⟩) hS ?_; try simp only [Act.put, List.setIfInBounds_toArray, List.set_cons_zero, List.set_cons_succ, List.getElem_toArray, List.getElem_cons_zero, List.getElem_cons_succ])
            first
            | (refine wpAnyH_take (i := 16) (v := ?_) rfl (by kernel_rfl) (by kernel_rfl) (by kernel_rfl) (fun _ _ _ h => h) (Or.inl ⟨by rfl, ?_⟩) hS ?_; rotate_left; (· (intro y hy; (try dsimp only at hy); go_simp; try with_reducible rfl)); try simp only [Act.put, List.setIfInBounds_toArray, List.set_cons_zero, List.set_cons_succ, List.getElem_toArray, List.getElem_cons_zero, List.getElem_cons_succ])
            | (refine wpAnyH_take (i := 16) (v := undef) rfl (by kernel_rfl) (by kernel_rfl) (by kernel_rfl) (fun _ _ _ h => h) (Or.inr ⟨by rfl, rfl⟩) hS ?_; try simp only [Act.put, List.setIfInBounds_toArray, List.set_cons_zero, List.set_cons_succ, List.getElem_toArray, List.getElem_cons_zero, List.getElem_cons_succ])
            first
            | (refine wpAnyH_take (i := 17) (v := ?_) rfl (by kernel_rfl) (by kernel_rfl) (by kernel_rfl) (fun _ _ _ h => h) (Or.inl ⟨by rfl, ?_⟩) hS ?_; rotate_left; (· (intro y hy; (try dsimp only at hy); go_simp; try with_reducible rfl)); try simp only [Act.put, List.setIfInBounds_toArray, List.set_cons_zero, List.set_cons_succ, List.getElem_toArray, List.getElem_cons_zero, List.getElem_cons_succ])
            | (refine wpAnyH_take (i := 17) (v := undef) rfl (by kernel_rfl) (by kernel_rfl) (by kernel_rfl) (fun _ _ _ h => h) (Or.inr ⟨by rfl, rfl⟩) hS ?_; try simp only [Act.put, List.setIfInBounds_toArray, List.set_cons_zero, List.set_cons_succ, List.getElem_toArray, List.getElem_cons_zero, List.getElem_cons_succ])
            refine wpAnyH_ready (rs := [18, 19]) (by kernel_rfl) (by simp) ?_
            refine AllReadyH.cons (o := _) rfl (fun K hK => ?_) (AllReadyH.cons (o := _) rfl (fun K hK => ?_) AllReadyH.nil)
            · go_simp
              refine (HF _).mono ?_
              rintro e y ⟨rfl, hb2⟩
              refine hK.out _ _ (hS.on hb2) (fun hS => ?_)
              clear hK K
              try simp only [Act.put, List.setIfInBounds_toArray, List.set_cons_zero, List.set_cons_succ]
              have hSy := hS
              refine wpAnyH_ready (rs := [19]) (by kernel_rfl) (by simp) ?_
              refine AllReadyH.cons (o := _) rfl (fun K hK => ?_) AllReadyH.nil
              go_simp
              refine hK.out _ _ (hS.on ((Below.refl _ _).alloc (Nat.le_refl _) _)) (fun hS => ?_)
              clear hK K
              try simp only [Act.put, List.setIfInBounds_toArray, List.set_cons_zero, List.set_cons_succ]
              refine wpAnyH_ready (rs := [20]) (by kernel_rfl) (by simp) ?_
              refine AllReadyH.cons (o := _) rfl (fun K hK => ?_) AllReadyH.nil
              go_simp
              refine hK.out _ _ (hSy.on ((Below.refl _ _).alloc (Nat.le_refl _) _)) (fun hS => ?_)
              clear hK K
              try simp only [Act.put, List.setIfInBounds_toArray, List.set_cons_zero, List.set_cons_succ]
              refine wpAnyH_done (by kernel_rfl) ?_ _
              refine NoPanic.normal ?_
              go_wp2_with fail
              go_meet
              exact ⟨_, rfl, hSy.2.size, BlkIs.new y _ _, hS.2⟩
            · go_simp
              have hk : BlkIs _ wr.heap.size _ _ := BlkIs.new wr.drew #[.int .i64 0, .int .i64 0, .bool false, .bool false] 51
              refine hK.out _ _ (hS.on ((Below.refl _ _).alloc (Nat.le_refl _) _)) (fun hS => ?_)
              clear hK K
              try simp only [Act.put, List.setIfInBounds_toArray, List.set_cons_zero, List.set_cons_succ]
              refine wpAnyH_ready (rs := [18]) (by kernel_rfl) (by simp) ?_
              refine AllReadyH.cons (o := _) rfl (fun K hK => ?_) AllReadyH.nil
              go_simp
              refine (HF _).mono ?_
              rintro e y ⟨rfl, hb2⟩
              replace hk := hk.more hb2 (by simp)
              refine hK.out _ _ (hS.on (by simpa using hb2)) (fun hS => ?_)
              clear hK K
              try simp only [Act.put, List.setIfInBounds_toArray, List.set_cons_zero, List.set_cons_succ]
              obtain ⟨⟨e0, e1, e2, e3⟩, f0, f1, f2, f3, l1⟩ := BlkIs.facts4 hk
              refine wpAnyH_ready (rs := [20]) (by kernel_rfl) (by simp) ?_
              refine AllReadyH.cons (o := _) rfl (fun K hK => ?_) AllReadyH.nil
              go_simp
              refine hK.out _ _ ((((hS.set hrw (a := ⟨wr.heap.size, 0, none⟩) (Nat.le_refl _) _).set hrw (a := ⟨wr.heap.size, 1, none⟩) (Nat.le_refl _) _).set hrw (a := ⟨wr.heap.size, 2, none⟩) (Nat.le_refl _) _).set hrw (a := ⟨wr.heap.size, 3, none⟩) (Nat.le_refl _) _) (fun hS => ?_)
              clear hK K
              try simp only [Act.put, List.setIfInBounds_toArray, List.set_cons_zero, List.set_cons_succ]
              refine wpAnyH_done (by kernel_rfl) ?_ _
              refine NoPanic.normal ?_
              go_wp2_with fail
              go_meet
              exact ⟨_, rfl, Nat.le_refl _, (((hk.set 0 (.int .i64 (os k).p)).set 1 (.int .i64 (os k).d)).set 2 (.bool (os k).wk)).set 3 (.bool (os k).fn), hS.2⟩
          case rest =>
            obtain ⟨g9, rfl, hg9, k9, hb9⟩ := hcut
            clear c0 c1 c2 c3 c4 HF hbn
            have nb9 : ¬ g9 = b := by have := hA.lt; omega
            replace hA := hA.below hb9 hA.lt.1 hA.lt.2
            replace k5 := k5.on hb9
            replace hown := own_chg hown (Chg.of_below (S := fun _ => False) hb9 (Nat.le_refl _)) (fun _ _ h => h)
            replace hC := hC.trans (Chg.of_below hb9 (Nat.le_refl _))
            have hszc := hb9.size
            obtain ⟨u, hu⟩ : ∃ u, 1 + off os k = u := ⟨_, rfl⟩
            obtain ⟨u', hu'⟩ : ∃ u, 1 + off os (k + 1) = u := ⟨_, rfl⟩
            have hstep : u + Cls.rd (os k).n = u' := by rw [← hu, ← hu', off_next]; omega
            have Hu := Lib.hid hu
            have Hu' := Lib.hid hu'
            have hu1 : 1 ≤ u ∧ u ≤ 151 := by omega
            have hn19 := Ob.n_le p1 d1
            have hnd : 3 + (os k).p + (os k).d = (os k).n := rfl
            have i1 : IntKind.i64.wrap (3 + ((os k).p : Int)) = 3 + ((os k).p : Int) := IntWalk.i64_in _ (by omega)
            have i2 : IntKind.i64.wrap (3 + ((os k).p : Int) + ((os k).d : Int)) = ((os k).n : Int) := by rw [IntWalk.i64_in _ (by omega)]; omega
            have hok : SpOk 1 150 u := ⟨by omega, by omega, by omega, by omega⟩
            have hTy := fun h => take_yes 1 150 u (os k).n hok (by omega) (by omega) h
            have hTn := fun h => take_full 1 150 u (os k).n hok (by omega) (by omega) h
            rw [hstep] at hTy hTn
            have HTy := Lib.hid hTy
            have HTn := Lib.hid hTn
            rw [hu] at k5
            obtain ⟨⟨c0, c1, c2, c3⟩, f0, f1, f2, f3, l9⟩ := k9.facts4
            obtain ⟨⟨d0, d1', d2⟩, -⟩ := blk3 k5
            have hun : u + (3 + (os k).p + (os k).d) ≤ u' := by have := Cls.rd_ge (m := (os k).n) (by omega); omega
            clear hu hu' hTy hTn hstep
            go_wp2_with fail
            clear c0 c1 c2 c3 f0 f1 f2 f3 d0 d1' d2
            by_cases hfit : u' ≤ 1 + 150
            · refine (HTy.out hfit _).mono ?_
              rintro e x ⟨rfl, hb⟩
              have hb' := hb.alloc hb.size (.cells #[.int .i64 1, .int .i64 150, .int .i64 u'] 41)
              have k10 := BlkIs.new x #[.int .i64 1, .int .i64 150, .int .i64 u'] 41
              have hxl := hb.size
              have hxl2 := hb'.size
              have hAl := hA.lt
              have k5l := k5.lt
              have k9l := k9.lt
              have k9x := k9.on hb
              replace hA := hA.below hb' hAl.1 hAl.2
              replace k5 := k5.on hb'
              replace hown := own_chg hown (Chg.of_below (S := fun _ => False) hb' (Nat.le_refl _)) (fun _ _ h => h)
              replace hC := hC.trans (Chg.of_below hb' (Nat.le_refl _))
              have nb10 : ¬ x.heap.size = b := by omega
              have n5 : ¬ q5 = x.heap.size := by omega
              obtain ⟨⟨c0, c1, c2, c3⟩, f0, f1, f2, f3, l9'⟩ := k9x.facts4
              clear HTy HTn hb k9 k9x k9l k5l hAl
              have M1 := make_yes u (k + 1) _ hA r1 p1 d1 (by omega) (by omega)
              rw [show ((k + 1 : Nat) : Int) = (k : Int) + 1 from by omega] at M1
              have hO := madeL_obj (l := l) (a := u) (k + 1) r1 p1 d1 (by omega)
              have hml := madeL_length l u (os k).p (os k).d (os k).wk (os k).fn (k + 1)
              have hsame : ∀ m t, m < k → t < 3 → (madeL l u (os k).p (os k).d (os k).wk (os k).fn (k + 1)).getD (1 + off os m + t) 0 = l.getD (1 + off os m + t) 0 := fun m t hm ht => by
                have h1 := off_mono os (show m + 1 ≤ k from hm)
                rw [off_next] at h1
                have h3 := rd_pos (os m).n
                have h2 := Hu.out
                rw [madeL_at (by omega), if_neg (by omega), if_neg (by omega), if_neg (by omega)]
              have hsr : (madeL l u (os k).p (os k).d (os k).wk (os k).fn (k + 1)).getD (u + 2) 0 = ((k + 1 : Nat) : Int) := by
                rw [madeL_at (by omega)]
                first
                  | (rw [if_pos rfl]; done)
                  | (rw [if_neg (by omega), if_pos rfl]; done)
                  | (rw [if_neg (by omega), if_neg (by omega), if_pos rfl]; done)
              have hz0 : (madeL l u (os k).p (os k).d (os k).wk (os k).fn (k + 1)).getD 0 0 = l.getD 0 0 := by
                rw [madeL_at (by omega), if_neg (by omega), if_neg (by omega), if_neg (by omega)]
              have i3 : IntKind.i64.wrap ((k : Int) + 1) = (k : Int) + 1 := IntWalk.i64_in _ (by omega)
              generalize madeL l u (os k).p (os k).d (os k).wk (os k).fn (k + 1) = l1 at *
              rw [hlN] at hml
              have Hsame := Lib.hid hsame
              have Hsr := Lib.hid hsr
              have Hz0 := Lib.hid hz0
              clear hsame hsr hz0
              go_wp2_with fail
              clear c0 c1 c2 c3 f0 f1 f2 f3 l9'
              generalize x.heap.size = g10 at *
              generalize x.alloc (.cells #[.int .i64 1, .int .i64 150, .int .i64 u'] 41) = x2 at *
              refine M1.mono ?_
              rintro e y ⟨rfl, hA1, hc⟩
              clear M1
              replace k5 := k5.chg hc nb5
              replace k10 := k10.chg hc nb10
              replace hown := own_chg hown hc (fun c h e => by have := HB2.out; have := hlt; omega)
              replace hC := hC.trans hc
              have hys := hc.size
              clear hc hA
              obtain ⟨⟨c0, c1, c2⟩, f0, f1, f2⟩ := blk3 k5
              obtain ⟨⟨d0, d1', d2⟩, g0, g1, g2⟩ := blk3 k10
              go_upto_region 10 with fail
              clear c0 c1 c2 f0 f1 f2 d0 d1' d2 g0 g1 g2
              have hq5 := HB2.out
              have hcq := (((Chg.refl (· = q5) y).setCell (p := ⟨q5, 0, none⟩) (.inl rfl) (.int .i64 1)).setCell (p := ⟨q5, 1, none⟩) (.inl rfl) (.int .i64 150)).setCell (p := ⟨q5, 2, none⟩) (.inl rfl) (.int .i64 u')
              have k5' : BlkIs _ q5 #[.int .i64 1, .int .i64 150, .int .i64 u'] 41 := ((k5.set 0 (.int .i64 1)).set 1 (.int .i64 150)).set 2 (.int .i64 u')
              generalize ((y.setCell { block := q5, off := 0 } (Value.int IntKind.i64 1)).setCell { block := q5, off := 1 } (Value.int IntKind.i64 150)).setCell { block := q5, off := 2 } (Value.int IntKind.i64 ↑u') = y2 at *
              replace hA1 := hA1.chg hcq (by omega) (by omega)
              replace hown := own_chg hown hcq (fun c h e => by omega)
              replace hC := hC.step hcq (fun c e => .inr (by omega))
              have hy2 := hcq.size
              clear hcq k5 k10
              have Hs : Hid (valsN (plc os 1 k) ++ [.int .i64 (u : Int)] = valsN (plc os 1 (k + 1))) := Lib.hid (by rw [valsN_snoc, ← Hu.out, plc_snoc])
              go_wp2_with (at_builtin; refine wpList_append_own _ rfl _ _ 23 rfl B2 3 i0 (.int .i64 0) 1 8 Try.underlying23 hi hz0 hz1 hz2 rfl (by decide) u7 _ _ rfl (hown.alloc _) ⟨y2.heap.size, 0, none⟩ 1 1 [.int .i64 u] rfl rfl (cell_one_new _ _ _) (by simp [Value.oneCell']) (by unfold maxLen; omega) (by omega) (by simp; omega) ?_; intro v' w2 hown2 hgr hnil)
              have hca := ((Chg.refl (fun c => B2 ≤ c) y2).alloc _).trans (chg_of_append (hown.alloc _) hgr)
              replace hA1 := hA1.chg hca (by omega) (by omega)
              replace k5' := k5'.chg hca (by omega)
              replace hC := hC.step hca (fun c e => .inr (by omega))
              have hw2 := hca.size
              rw [Hs.out] at hown2
              clear hca hown hgr hnil Hs
              go_loopw [13] (fun j wq => ∃ (jj : Nat) (l2 : List Int), jj ≤ 8 ∧ j = .int .i64 jj ∧ l2.length = N ∧ ArenaAt 65 wq P b l2 ∧ ObjIs l2 u (os k).p (os k).d (os k).wk (os k).fn false ∧ (∀ m t, m < k → t < 3 → l2.getD (1 + off os m + t) 0 = l.getD (1 + off os m + t) 0) ∧ l2.getD (u + 2) 0 = ((k + 1 : Nat) : Int) ∧ l2.getD 0 0 = l.getD 0 0 ∧ Chg (· = b) w2 wq) (fun j _ => 8 - (intOf j).toNat)
              case atStart => exact ⟨0, l1, by omega, rfl, hml, hA1, hO, Hsame.out, Hsr.out, Hz0.out, Chg.refl _ _⟩
              case round =>
                clear hA1 hO Hsame hml Hsr Hz0
                obtain ⟨jj, l2, hjj, rfl, hl2, hA2, hO, hsame, hsr, hz0, hcw⟩ := hrel
                have Hsame := Lib.hid hsame
                have Hsr := Lib.hid hsr
                have Hz0 := Lib.hid hz0
                clear hsame hsr hz0
                have hbn : Below n₀ W wr := (hC.trans hcw).below (fun k e => by omega) hn
                obtain ⟨c0, c1, c2, c3, c4⟩ := hraw.on hbn hrb
                by_cases h3 : jj < (f k).fl
                · by_cases h4 : jj < 8
                  · rcases hrow with h0 | ⟨fb, fo, hfa, hfb, hfm, hfc⟩
                    · omega
                    · obtain ⟨hz, hzf⟩ := hfc jj h3
                      obtain ⟨zz, hzz⟩ : ∃ z, (f k).fz jj = z := ⟨_, rfl⟩
                      rw [hzz] at hz hzf
                      clear hzz hfc
                      have z1 := (hbn.cell (p := ⟨fb, fo + jj, none⟩) hfb).trans hz
                      have c3o := c3
                      rw [hfa] at c3
                      obtain ⟨fl, hfl⟩ : ∃ n, (f k).fl = n := ⟨_, rfl⟩
                      obtain ⟨fc, hfc⟩ : ∃ n, (f k).fc = n := ⟨_, rfl⟩
                      rw [hfl, hfc] at c3
                      rw [hfl] at h3
                      have j3 : (0 : Int) ≤ (jj : Int) := by omega
                      have j4 : (jj : Int) < (fl : Int) := by omega
                      have j5 : decide ((jj : Int) < 8) = true := decide_eq_true (by omega)
                      have hra := hraw
                      clear c0 c1 c2 c4 c3o hfl hfc hfm
                      go_wp2_with fail
                      refine (pick8_nat zz 131073 _ hzf.1 hzf.2 (by omega) (by omega)).mono ?_
                      rintro e x ⟨v, hv, rfl, rfl⟩
                      go_wp2_with fail
                      refine (setPtr_some u jj v _ hA2 hO (by omega) (by omega)).mono ?_
                      rintro e x ⟨er, l3, rfl, hA3, hl3, hs3, hc3⟩
                      have hx3 : Below n₀ wr x := hc3.below (fun k e => by omega) (by have := hbn.size; omega)
                      replace z1 := (hx3.cell (p := ⟨fb, fo + jj, none⟩) hfb).trans z1
                      replace c3 := (hx3.cell (p := ⟨rb, ro + k * 5 + 3, none⟩) hrb).trans c3
                      have hO3 := hO.same hl3 (hs3 u (by omega))
                      have Hs3 := Lib.hid hs3
                      clear hs3 hx3 hA2
                      go_wp2_with fail
                      refine (setNum_some u jj zz _ hA3 hO3 (by omega) hzf.1 hzf.2).mono ?_
                      rintro e x2 ⟨er2, l4, rfl, hA4, hl4, hs4, hc4⟩
                      have hO4 := hO3.same hl4 (hs4 u (by omega))
                      have Hs4 := Lib.hid hs4
                      clear hs4 z1 c3 hA3
                      go_wp2
                      go_roundw
                      case rel =>
                        refine ⟨jj + 1, l4, by omega, by go_num, by rw [hl4, hl3, hl2], hA4, hO4, fun m t hm ht => ?_, ?_, ?_, (hcw.trans hc3).trans hc4⟩
                        · have h1 := off_mono os (show m + 1 ≤ k from hm)
                          rw [off_next] at h1
                          have h3 := rd_pos (os m).n
                          have h6 := Hu.out
                          rw [Hs4.out _ (by omega), Hs3.out _ (by omega)]
                          exact Hsame.out m t hm ht
                        · rw [Hs4.out _ (by omega), Hs3.out _ (by omega), Hsr.out]
                        · rw [Hs4.out _ (by omega), Hs3.out _ (by omega), Hz0.out]
                      case measure => simp [intOf]; omega
                  · have j5 : decide ((jj : Int) < 8) = false := decide_eq_false (by omega)
                    obtain ⟨fl, hfl⟩ : ∃ n, (f k).fl = n := ⟨_, rfl⟩
                    rw [hfl] at c3 h3
                    clear hfl c0 c1 c2
                    go_wp2_with fail
                    refine (setFreed_at u (f k).fr _ hA2 hO).mono ?_
                    rintro e x5 ⟨rfl, hA5, hc5⟩
                    have hcx := hcw.trans hc5
                    go_wp2
                    go_roundw
                    case rel =>
                      refine ⟨k + 1, l2.set u _, by omega, by omega, by go_num, by rw [List.length_set]; exact hl2, hA5, fun m hm => ?_, by have := Hu'.out; omega, (by rw [Hu'.out]; exact k5'.chg hcx nb5), own_chg hown2 hcx (fun c h e => by omega), by have := hcx.size; omega, hC.trans hcx, fun m hm => ?_, by rw [set_at' (by have := hO.room; omega), if_neg (by omega), Hz0.out, Hl0.out]⟩
                      by_cases hmk : m = k
                      · subst hmk
                        rw [Hu.out, hfr]
                        exact ⟨hO.right, hO.ptrs, hO.data, by rw [List.length_set]; exact hO.room, by rw [set_at' (by have := hO.room; omega), if_pos rfl]⟩
                      · have hmk' : m < k := by omega
                        have h5 := off_lt os hmk'
                        have h6 := Hu.out
                        have h7 := hO.room
                        refine (hobs m hmk').same (by rw [List.length_set, hl2, hlN]) ?_
                        rw [set_at' (by omega), if_neg (by omega)]
                        exact Hsame.out m 0 hmk' (by omega)
                      by_cases hmk : m = k
                      · subst hmk
                        have h6 := Hu.out
                        rw [show 1 + off os m + 2 = u + 2 from by omega, set_at' (by have := hO.room; omega), if_neg (by omega), Hsr.out]
                      · have hmk' : m < k := by omega
                        have h1 := off_mono os (show m + 1 ≤ k from hmk')
                        rw [off_next] at h1
                        have h3 := rd_pos (os m).n
                        have h6 := Hu.out
                        have h7 := hO.room
                        rw [set_at' (by omega), if_neg (by omega), Hsame.out m 2 hmk' (by omega)]
                        exact Hser.out m hmk'
                    case measure => simp [intOf]; omega
                · obtain ⟨fl, hfl⟩ : ∃ n, (f k).fl = n := ⟨_, rfl⟩
                  rw [hfl] at c3 h3
                  clear hfl c0 c1 c2
                  go_wp2_with fail
                  refine (setFreed_at u (f k).fr _ hA2 hO).mono ?_
                  rintro e x5 ⟨rfl, hA5, hc5⟩
                  have hcx := hcw.trans hc5
                  go_wp2
                  go_roundw
                  case rel =>
                    refine ⟨k + 1, l2.set u _, by omega, by omega, by go_num, by rw [List.length_set]; exact hl2, hA5, fun m hm => ?_, by have := Hu'.out; omega, (by rw [Hu'.out]; exact k5'.chg hcx nb5), own_chg hown2 hcx (fun c h e => by omega), by have := hcx.size; omega, hC.trans hcx, fun m hm => ?_, by rw [set_at' (by have := hO.room; omega), if_neg (by omega), Hz0.out, Hl0.out]⟩
                    by_cases hmk : m = k
                    · subst hmk
                      rw [Hu.out, hfr]
                      exact ⟨hO.right, hO.ptrs, hO.data, by rw [List.length_set]; exact hO.room, by rw [set_at' (by have := hO.room; omega), if_pos rfl]⟩
                    · have hmk' : m < k := by omega
                      have h5 := off_lt os hmk'
                      have h6 := Hu.out
                      have h7 := hO.room
                      refine (hobs m hmk').same (by rw [List.length_set, hl2, hlN]) ?_
                      rw [set_at' (by omega), if_neg (by omega)]
                      exact Hsame.out m 0 hmk' (by omega)
                    by_cases hmk : m = k
                    · subst hmk
                      have h6 := Hu.out
                      rw [show 1 + off os m + 2 = u + 2 from by omega, set_at' (by have := hO.room; omega), if_neg (by omega), Hsr.out]
                    · have hmk' : m < k := by omega
                      have h1 := off_mono os (show m + 1 ≤ k from hmk')
                      rw [off_next] at h1
                      have h3 := rd_pos (os m).n
                      have h6 := Hu.out
                      have h7 := hO.room
                      rw [set_at' (by omega), if_neg (by omega), Hsame.out m 2 hmk' (by omega)]
                      exact Hser.out m hmk'
                  case measure => simp [intOf]; omega
            · refine (HTn.out (by omega) _).mono ?_
              rintro e x ⟨rfl, hb⟩
              obtain ⟨sa, sc, rfl⟩ : ∃ a c, u7 = .slice a k c := by
                rcases hown.2 with ⟨rfl, h⟩ | ⟨g, cap, cur, rfl, _⟩
                · exact ⟨none, 0, by rw [h]⟩
                · exact ⟨_, _, rfl⟩
              go_wp2
              go_ret
              have hb' := hb.alloc hb.size (.cells #[.int .i64 1, .int .i64 150, .int .i64 u] 41)
              exact ⟨_, k, os, l, rfl, hk8, hA.below hb' hA.lt.1 hA.lt.2, hlN, hobs, hoff, own_mono (own_chg hown (Chg.of_below (S := fun _ => False) hb' (Nat.le_refl _)) (fun _ _ h => h)) (by have := HB2.out; omega), hC.trans (Chg.of_below hb' (Nat.le_refl _)), hk, Hser.out, Hl0.out⟩
      · have j2 : decide ((k : Int) < 8) = false := decide_eq_false (by omega)
        obtain ⟨sa, sc, rfl⟩ : ∃ a c, u7 = .slice a k c := by
          rcases hown.2 with ⟨rfl, h⟩ | ⟨g, cap, cur, rfl, _⟩
          · exact ⟨none, 0, by rw [h]⟩
          · exact ⟨_, _, rfl⟩
        go_wp2
        go_ret
        exact ⟨_, k, os, l, rfl, hk8, hA, hlN, hobs, hoff, own_mono hown (by have := HB2.out; omega), hC, hk, Hser.out, Hl0.out⟩
    · obtain ⟨sa, sc, rfl⟩ : ∃ a c, u7 = .slice a k c := by
        rcases hown.2 with ⟨rfl, h⟩ | ⟨g, cap, cur, rfl, _⟩
        · exact ⟨none, 0, by rw [h]⟩
        · exact ⟨_, _, rfl⟩
      go_wp2
      go_ret
      exact ⟨_, k, os, l, rfl, hk8, hA, hlN, hobs, hoff, own_mono hown (by have := HB2.out; omega), hC, hk, Hser.out, Hl0.out⟩

/-- .. in short. -/
theorem lay_any (n₀ P b N rl rc : Nat) (ra : Option Addr) (f : Nat → RawN) (l₀ : List Int) (W : World) (hA0 : ArenaAt 65 W P b l₀) (hN : l₀.length = N) (hN1 : 151 ≤ N) (hnb : n₀ ≤ b) (hn : n₀ ≤ W.heap.size) (hR : RawsAt n₀ W ra rl f) :
    Calls Try.prog 8 #[.pointer (some ⟨P, 0, none⟩), .slice ra rl rc] W fun e w' => ∃ (sv : Value) (m : Nat) (os : Nat → Ob) (l : List Int), e = .returned sv ∧ m ≤ 8 ∧ ArenaAt 65 w' P b l ∧ l.length = N ∧ ObsAt l 1 os m ∧ off os m ≤ 150 ∧
      w'.ownsRow W.heap.size 3 1 sv m (valsN (plc os 1 m)) ∧ Chg (· = b) W w' := by
  refine (lay_more n₀ P b N rl rc ra f l₀ W hA0 hN hN1 hnb hn hR).mono ?_
  rintro e w' ⟨sv, m, os, l, h1, h2, h3, h4, h5, h6, h7, h8, -⟩
  exact ⟨sv, m, os, l, h1, h2, h3, h4, h5, h6, h7, h8⟩

end Go.Proofs.Ytceedbkacbaaiaa
