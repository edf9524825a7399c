/- For every two three numbers and ops of a raw list: an object that is laid where one was is as new, of its own shape and serial: the law ObjectAgain returns true and its arguments read as they did. No condition. -/
import Derived.Test.YtencoabgdnmbaaaObjLaw
import Derived.Test.YtencoabgdnmbaaaOps
import Derived.Test.YtencoabgdnmbaaaRound
namespace Go.Proofs.Ytencoabgdnmbaaa.objectAgain
open Go.ChangeShapes Go.WideShapes Go.ChangeAt Go.RowKit
set_option linter.unusedVariables false
set_option linter.unusedSimpArgs false

theorem ObjIs.set {l : List Int} {a p d j : Nat} {wk fn fr : Bool} (o : ObjIs l a p d wk fn fr) (x : Int) (hj : ¬ j = a) : ObjIs (l.set j x) a p d wk fn fr :=
  ⟨o.right, o.ptrs, o.data, by rw [List.length_set]; exact o.room, by rw [set_at' (by have := o.room; omega), if_neg (fun e => hj e.symm)]; exact o.head⟩
theorem ObjIs.free {l : List Int} {a p d : Nat} {wk fn fr : Bool} (o : ObjIs l a p d wk fn fr) (to : Bool) : ObjIs (l.set a (headN p d wk fn to : Nat)) a p d wk fn to :=
  ⟨o.right, o.ptrs, o.data, by rw [List.length_set]; exact o.room, by rw [set_at' (by have := o.room; omega), if_pos rfl]⟩

/-- An arena in which, at place 0, there is an object of this shape; block g is as it was. -/
structure Inv (P b g p d : Nat) (wk fn : Bool) (G : Array Value) (w x : World) : Prop where
  here : ∃ (L : List Int) (fr : Bool), L.length = 60 ∧ ArenaAt 75 x P b L ∧ ObjIs L 0 p d wk fn fr
  blk : BlkIs x g G 22
  below : Below w.heap.size w x
  apart : ¬ g = b
  own : w.heap.size ≤ b
section
variable {P b g p d : Nat} {wk fn : Bool} {G : Array Value} {w x y : World}
theorem Inv.drew (h : Inv P b g p d wk fn G w x) : Inv P b g p d wk fn G w x.drew :=
  ⟨let ⟨L, fr, h1, h2, h3⟩ := h.here; ⟨L, fr, h1, h2.drew, h3⟩, h.blk, h.below.drew, h.apart, h.own⟩
theorem Inv.on (h : Inv P b g p d wk fn G w x) (hb : Below x.heap.size x y) : Inv P b g p d wk fn G w y :=
  ⟨let ⟨L, fr, h1, h2, h3⟩ := h.here; ⟨L, fr, h1, h2.below hb h2.lt.1 h2.lt.2, h3⟩, h.blk.on hb, h.below.trans (hb.mono h.below.size), h.apart, h.own⟩
theorem Inv.next (h : Inv P b g p d wk fn G w x) {L : List Int} {fr : Bool} (h1 : L.length = 60) (h2 : ArenaAt 75 y P b L) (h3 : ObjIs L 0 p d wk fn fr) (hc : Chg (· = b) x y) : Inv P b g p d wk fn G w y :=
  ⟨⟨L, fr, h1, h2, h3⟩, h.blk.chg hc h.apart, h.below.trans (hc.below (fun k e => by have := h.own; omega) h.below.size), h.apart, h.own⟩

theorem setPtr_inv (k v : Nat) (hk : k < 9) (hv : v < 99) (h : Inv P b g p d wk fn G w x) :
    Calls Try.prog 10 #[.pointer (some ⟨P, 0, none⟩), .int .i64 0, .int .i64 k, .int .i64 v] x fun e y => ∃ r : Int, e = .returned (.int .i64 r) ∧ Inv P b g p d wk fn G w y := by
  obtain ⟨L, fr, h1, h2, h3⟩ := h.here
  by_cases hp : k < p
  · refine (setPtr_at 0 k v x h2 h3 hp (by omega)).mono ?_
    rintro e y ⟨rfl, hA, hc⟩
    exact ⟨_, rfl, h.next (by rw [List.length_set]; exact h1) hA (ObjIs.set h3 _ (by omega)) hc⟩
  · refine (setPtr_no 0 k v x h2 h3 (by omega) (by omega) (by omega)).mono ?_
    rintro e y ⟨rfl, hb⟩
    exact ⟨_, rfl, h.on hb⟩
theorem setNum_inv (k : Nat) (n : Int) (hk : k < 9) (n0 : -9223372036854775808 ≤ n) (n1 : n ≤ 9223372036854775807) (h : Inv P b g p d wk fn G w x) :
    Calls Try.prog 11 #[.pointer (some ⟨P, 0, none⟩), .int .i64 0, .int .i64 k, .int .i64 n] x fun e y => ∃ r : Int, e = .returned (.int .i64 r) ∧ Inv P b g p d wk fn G w y := by
  obtain ⟨L, fr, h1, h2, h3⟩ := h.here
  by_cases hd : k < d
  · refine (setNum_at 0 k n x h2 h3 hd n0 n1).mono ?_
    rintro e y ⟨rfl, hA, hc⟩
    exact ⟨_, rfl, h.next (by rw [List.length_set]; exact h1) hA (ObjIs.set h3 _ (by omega)) hc⟩
  · refine (setNum_no 0 k n x h2 h3 (by omega) (by omega) (by omega) n0 n1).mono ?_
    rintro e y ⟨rfl, hb⟩
    exact ⟨_, rfl, h.on hb⟩
theorem setSecond_inv (u : Int) (hu : 0 ≤ u ∧ u ≤ 18446744073709551615) (h : Inv P b g p d wk fn G w x) :
    Calls Try.prog 23 #[.pointer (some ⟨P, 0, none⟩), .int .i64 0, .int .u64 u] x fun e y => ∃ r : Int, e = .returned (.int .i64 r) ∧ Inv P b g p d wk fn G w y := by
  obtain ⟨L, fr, h1, h2, h3⟩ := h.here
  refine (setSecond_at 0 u x h2 h3 hu).mono ?_
  rintro e y ⟨rfl, hA, hc⟩
  exact ⟨_, rfl, h.next (by rw [List.length_set]; exact h1) hA (ObjIs.set h3 _ (by omega)) hc⟩
theorem setFreed_inv (to : Bool) (h : Inv P b g p d wk fn G w x) :
    Calls Try.prog 12 #[.pointer (some ⟨P, 0, none⟩), .int .i64 0, .bool to] x fun e y => ∃ r : Int, e = .returned (.int .i64 r) ∧ Inv P b g p d wk fn G w y := by
  obtain ⟨L, fr, h1, h2, h3⟩ := h.here
  refine (setFreed_at 0 to x h2 h3).mono ?_
  rintro e y ⟨rfl, hA, hc⟩
  exact ⟨_, rfl, h.next (by rw [List.length_set]; exact h1) hA (ObjIs.free h3 _) hc⟩
end


set_option maxRecDepth 100000 in
set_option maxHeartbeats 4000000 in
theorem walk (a0x0 a0x1 a0x2 a1x0 a1x1 a1x2 : Int) (a2 : Option Addr) (len2 cap2 : Nat) (z2 : Nat → Nat → Value) (w : World) (w0 : -9223372036854775808 ≤ a0x0 ∧ a0x0 ≤ 9223372036854775807) (w1 : -9223372036854775808 ≤ a0x1 ∧ a0x1 ≤ 9223372036854775807) (w2 : -9223372036854775808 ≤ a0x2 ∧ a0x2 ≤ 9223372036854775807)
    (w3 : -9223372036854775808 ≤ a1x0 ∧ a1x0 ≤ 9223372036854775807) (w4 : -9223372036854775808 ≤ a1x1 ∧ a1x1 ≤ 9223372036854775807) (w5 : -9223372036854775808 ≤ a1x2 ∧ a1x2 ≤ 9223372036854775807) (w6 : IsFlat opKinds w a2 len2 cap2 z2) :
    Calls Try.prog 5 #[.agg #[.int .i64 a0x0, .int .i64 a0x1, .int .i64 a0x2], .agg #[.int .i64 a1x0, .int .i64 a1x1, .int .i64 a1x2], .slice a2 len2 cap2] w fun e w' => e = .returned (.bool true) ∧ Below w.heap.size w w' := by
  obtain ⟨p, d, wk, fn, F⟩ := fit_sh a0x0 a0x1 a0x2 w0 w1 w2
  obtain ⟨p', d', wk', fn', F'⟩ := fit_sh a1x0 a1x1 a1x2 w3 w4 w5
  have r1 := F.right
  have p1 := F.ptrs
  have d1 := F.data
  obtain ⟨f, hops⟩ := isOps_of_flat w6
  clear w0 w1 w2 w3 w4 w5 w6 z2
  go_enter Try.func5, Try.ntmps5
  go_wp2_with fail
  have h3 := (BlkIs.new w #[.int .i64 a0x0, .int .i64 a0x1, .int .i64 a0x2] 22).alloc (.cells #[.int .i64 a1x0, .int .i64 a1x1, .int .i64 a1x2] 22)
  have h4 := BlkIs.new (w.alloc (.cells #[.int .i64 a0x0, .int .i64 a0x1, .int .i64 a0x2] 22)) #[.int .i64 a1x0, .int .i64 a1x1, .int .i64 a1x2] 22
  rw [show (w.alloc (.cells #[.int .i64 a0x0, .int .i64 a0x1, .int .i64 a0x2] 22)).heap.size = w.heap.size + 1 from by simp] at h4
  have hB := ((Below.refl _ w).alloc (Nat.le_refl _) (.cells #[.int .i64 a0x0, .int .i64 a0x1, .int .i64 a0x2] 22)).alloc (by simp) (.cells #[.int .i64 a1x0, .int .i64 a1x1, .int .i64 a1x2] 22)
  obtain ⟨g4, e4⟩ : ∃ k, w.heap.size + 1 = k := ⟨_, rfl⟩
  rw [e4] at h4 ⊢
  clear e4
  refine (awake_yes _).mono ?_
  rintro e x ⟨rfl, hb⟩
  replace h3 := h3.on hb
  replace h4 := h4.on hb
  replace hB := hB.trans (hb.mono hB.size)
  clear hb
  obtain ⟨c0, c1, c2, l2⟩ := h3.facts3
  go_wp2_with fail
  refine (row_any F F _).mono ?_
  rintro e x1 ⟨P, b, rfl, hA, hP, hb, hn⟩
  have hwb : w.heap.size ≤ b := by have := h3.lt; omega
  have h4b : ¬ g4 = b := by have := h4.lt; omega
  replace h4 := h4.on hn
  replace hB := hB.trans (hn.mono hB.size)
  have O : ObjIs (rowL p d wk fn p d wk fn) 0 p d wk fn false := by
    have o := madeL_obj (l := List.replicate 60 0) (a := 0) (wk := wk) (fn := fn) 1 r1 p1 d1 (by rw [List.length_replicate]; omega)
    exact ⟨r1, p1, d1, by unfold rowL; rw [madeL_length]; exact o.room, by unfold rowL; rw [madeL_at (by rw [madeL_length, List.length_replicate]; omega), if_neg (by omega), if_neg (by omega), if_neg (by omega)]; exact o.head⟩
  have hll : (rowL p d wk fn p d wk fn).length = 60 := by unfold rowL; rw [madeL_length, madeL_length, List.length_replicate]
  have ho := ((Below.refl x1.heap.size x1).alloc (Nat.le_refl _) (.cells #[.int .i64 p, .int .i64 d, .bool wk, .bool fn] 27)).alloc (by simp) (.cells #[.int .i64 p, .int .i64 d, .bool wk, .bool fn] 27)
  have I : Inv P b g4 p d wk fn #[.int .i64 a1x0, .int .i64 a1x1, .int .i64 a1x2] w x1 := ⟨⟨_, _, hll, hA, O⟩, h4, hB, h4b, hwb⟩
  replace I := I.on ho
  clear ho hn hP hb h3 c0 c1 c2 l2 F h4 hB O hll hA h4b hwb
  go_wp2
  go_loopw [12] (fun i wr => ∃ j : Nat, j ≤ 20 ∧ i = .int .i64 j ∧ Inv P b g4 p d wk fn #[.int .i64 a1x0, .int .i64 a1x1, .int .i64 a1x2] w wr) (fun i _ => 20 - (intOf i).toNat)
  case atStart => exact ⟨0, by omega, rfl, I⟩
  case round =>
    clear I
    obtain ⟨j, hj, rfl, I⟩ := hrel
    by_cases h0 : j < len2
    · by_cases h20 : j < 20
      · have hd : decide ((j : Int) < 20) = true := decide_eq_true (by omega)
        have hd0 : decide (j < len2) = true := decide_eq_true h0
        rcases hops with ⟨e, -⟩ | ⟨bo, off, rfl, hbo, hlc, hcm, hcell⟩
        · exact absurd h0 (by omega)
        · obtain ⟨⟨-, -, cI, cN, cW⟩, -, -, fI, fN, fW⟩ := hcell j (by omega)
          generalize (f j).b = xI at cI fI
          generalize (f j).n = xN at cN fN
          generalize (f j).w = xW at cW fW
          have C : ∀ y : World, Inv P b g4 p d wk fn #[.int .i64 a1x0, .int .i64 a1x1, .int .i64 a1x2] w y → y.cell? ⟨bo, off + j * 5 + 2, none⟩ = some (.int .i64 xI) ∧ y.cell? ⟨bo, off + j * 5 + 3, none⟩ = some (.int .i64 xN) ∧ y.cell? ⟨bo, off + j * 5 + 4, none⟩ = some (.int .u64 xW) ∧ Inv P b g4 p d wk fn #[.int .i64 a1x0, .int .i64 a1x1, .int .i64 a1x2] w y :=
            fun y h => ⟨(h.below.cell (p := ⟨bo, _, none⟩) hbo).trans cI, (h.below.cell (p := ⟨bo, _, none⟩) hbo).trans cN, (h.below.cell (p := ⟨bo, _, none⟩) hbo).trans cW, h⟩
          have HC := Lib.hid C
          clear C cI cN cW hcell
          go_wp2
          refine wp_region_held_drew (S := fun y => y.cell? ⟨bo, off + j * 5 + 2, none⟩ = some (.int .i64 xI) ∧ y.cell? ⟨bo, off + j * 5 + 3, none⟩ = some (.int .i64 xN) ∧ y.cell? ⟨bo, off + j * 5 + 4, none⟩ = some (.int .u64 xW) ∧ Inv P b g4 p d wk fn #[.int .i64 a1x0, .int .i64 a1x1, .int .i64 a1x2] w y) (by kernel_rfl) (HC.out _ I.drew) (fun hS => ?_)
          first
          | (refine wpAnyH_take (i := 0) (v := ?_) rfl (by kernel_rfl) (by kernel_rfl) (by kernel_rfl) (fun _ _ _ h => h) (Or.inl ⟨by rfl, ?_⟩) hS ?_; rotate_left; (· (intro y hy; (try dsimp only at hy); go_simp; try with_reducible rfl)); try simp only [Act.put, List.setIfInBounds_toArray, List.set_cons_zero, List.set_cons_succ, List.getElem_toArray, List.getElem_cons_zero, List.getElem_cons_succ])
          | (refine wpAnyH_take (i := 0) (v := undef) rfl (by kernel_rfl) (by kernel_rfl) (by kernel_rfl) (fun _ _ _ h => h) (Or.inr ⟨by rfl, rfl⟩) hS ?_; try simp only [Act.put, List.setIfInBounds_toArray, List.set_cons_zero, List.set_cons_succ, List.getElem_toArray, List.getElem_cons_zero, List.getElem_cons_succ])
          first
          | (refine wpAnyH_take (i := 1) (v := ?_) rfl (by kernel_rfl) (by kernel_rfl) (by kernel_rfl) (fun _ _ _ h => h) (Or.inl ⟨by rfl, ?_⟩) hS ?_; rotate_left; (· (intro y hy; (try dsimp only at hy); go_simp; try with_reducible rfl)); try simp only [Act.put, List.setIfInBounds_toArray, List.set_cons_zero, List.set_cons_succ, List.getElem_toArray, List.getElem_cons_zero, List.getElem_cons_succ])
          | (refine wpAnyH_take (i := 1) (v := undef) rfl (by kernel_rfl) (by kernel_rfl) (by kernel_rfl) (fun _ _ _ h => h) (Or.inr ⟨by rfl, rfl⟩) hS ?_; try simp only [Act.put, List.setIfInBounds_toArray, List.set_cons_zero, List.set_cons_succ, List.getElem_toArray, List.getElem_cons_zero, List.getElem_cons_succ])
          first
          | (refine wpAnyH_take (i := 2) (v := ?_) rfl (by kernel_rfl) (by kernel_rfl) (by kernel_rfl) (fun _ _ _ h => h) (Or.inl ⟨by rfl, ?_⟩) hS ?_; rotate_left; (· (intro y hy; (try dsimp only at hy); go_simp; try with_reducible rfl)); try simp only [Act.put, List.setIfInBounds_toArray, List.set_cons_zero, List.set_cons_succ, List.getElem_toArray, List.getElem_cons_zero, List.getElem_cons_succ])
          | (refine wpAnyH_take (i := 2) (v := undef) rfl (by kernel_rfl) (by kernel_rfl) (by kernel_rfl) (fun _ _ _ h => h) (Or.inr ⟨by rfl, rfl⟩) hS ?_; try simp only [Act.put, List.setIfInBounds_toArray, List.set_cons_zero, List.set_cons_succ, List.getElem_toArray, List.getElem_cons_zero, List.getElem_cons_succ])
          first
          | (refine wpAnyH_take (i := 3) (v := ?_) rfl (by kernel_rfl) (by kernel_rfl) (by kernel_rfl) (fun _ _ _ h => h) (Or.inl ⟨by rfl, ?_⟩) hS ?_; rotate_left; (· (intro y hy; (try dsimp only at hy); go_simp; try with_reducible rfl)); try simp only [Act.put, List.setIfInBounds_toArray, List.set_cons_zero, List.set_cons_succ, List.getElem_toArray, List.getElem_cons_zero, List.getElem_cons_succ])
          | (refine wpAnyH_take (i := 3) (v := undef) rfl (by kernel_rfl) (by kernel_rfl) (by kernel_rfl) (fun _ _ _ h => h) (Or.inr ⟨by rfl, rfl⟩) hS ?_; try simp only [Act.put, List.setIfInBounds_toArray, List.set_cons_zero, List.set_cons_succ, List.getElem_toArray, List.getElem_cons_zero, List.getElem_cons_succ])
          first
          | (refine wpAnyH_take (i := 4) (v := ?_) rfl (by kernel_rfl) (by kernel_rfl) (by kernel_rfl) (fun _ _ _ h => h) (Or.inl ⟨by rfl, ?_⟩) hS ?_; rotate_left; (· (intro y hy; (try dsimp only at hy); go_simp; try with_reducible rfl)); try simp only [Act.put, List.setIfInBounds_toArray, List.set_cons_zero, List.set_cons_succ, List.getElem_toArray, List.getElem_cons_zero, List.getElem_cons_succ])
          | (refine wpAnyH_take (i := 4) (v := undef) rfl (by kernel_rfl) (by kernel_rfl) (by kernel_rfl) (fun _ _ _ h => h) (Or.inr ⟨by rfl, rfl⟩) hS ?_; try simp only [Act.put, List.setIfInBounds_toArray, List.set_cons_zero, List.set_cons_succ, List.getElem_toArray, List.getElem_cons_zero, List.getElem_cons_succ])
          first
          | (refine wpAnyH_take (i := 5) (v := ?_) rfl (by kernel_rfl) (by kernel_rfl) (by kernel_rfl) (fun _ _ _ h => h) (Or.inl ⟨by rfl, ?_⟩) hS ?_; rotate_left; (· (intro y hy; (try dsimp only at hy); go_simp; try with_reducible rfl)); try simp only [Act.put, List.setIfInBounds_toArray, List.set_cons_zero, List.set_cons_succ, List.getElem_toArray, List.getElem_cons_zero, List.getElem_cons_succ])
          | (refine wpAnyH_take (i := 5) (v := undef) rfl (by kernel_rfl) (by kernel_rfl) (by kernel_rfl) (fun _ _ _ h => h) (Or.inr ⟨by rfl, rfl⟩) hS ?_; try simp only [Act.put, List.setIfInBounds_toArray, List.set_cons_zero, List.set_cons_succ, List.getElem_toArray, List.getElem_cons_zero, List.getElem_cons_succ])
          first
          | (refine wpAnyH_take (i := 7) (v := ?_) rfl (by kernel_rfl) (by kernel_rfl) (by kernel_rfl) (fun _ _ _ h => h) (Or.inl ⟨by rfl, ?_⟩) hS ?_; rotate_left; (· (intro y hy; (try dsimp only at hy); go_simp; try with_reducible rfl)); try simp only [Act.put, List.setIfInBounds_toArray, List.set_cons_zero, List.set_cons_succ, List.getElem_toArray, List.getElem_cons_zero, List.getElem_cons_succ])
          | (refine wpAnyH_take (i := 7) (v := undef) rfl (by kernel_rfl) (by kernel_rfl) (by kernel_rfl) (fun _ _ _ h => h) (Or.inr ⟨by rfl, rfl⟩) hS ?_; try simp only [Act.put, List.setIfInBounds_toArray, List.set_cons_zero, List.set_cons_succ, List.getElem_toArray, List.getElem_cons_zero, List.getElem_cons_succ])
          first
          | (refine wpAnyH_take (i := 8) (v := ?_) rfl (by kernel_rfl) (by kernel_rfl) (by kernel_rfl) (fun _ _ _ h => h) (Or.inl ⟨by rfl, ?_⟩) hS ?_; rotate_left; (· (intro y hy; (try dsimp only at hy); go_simp; try with_reducible rfl)); try simp only [Act.put, List.setIfInBounds_toArray, List.set_cons_zero, List.set_cons_succ, List.getElem_toArray, List.getElem_cons_zero, List.getElem_cons_succ])
          | (refine wpAnyH_take (i := 8) (v := undef) rfl (by kernel_rfl) (by kernel_rfl) (by kernel_rfl) (fun _ _ _ h => h) (Or.inr ⟨by rfl, rfl⟩) hS ?_; try simp only [Act.put, List.setIfInBounds_toArray, List.set_cons_zero, List.set_cons_succ, List.getElem_toArray, List.getElem_cons_zero, List.getElem_cons_succ])
          first
          | (refine wpAnyH_take (i := 9) (v := ?_) rfl (by kernel_rfl) (by kernel_rfl) (by kernel_rfl) (fun _ _ _ h => h) (Or.inl ⟨by rfl, ?_⟩) hS ?_; rotate_left; (· (intro y hy; (try dsimp only at hy); go_simp; try with_reducible rfl)); try simp only [Act.put, List.setIfInBounds_toArray, List.set_cons_zero, List.set_cons_succ, List.getElem_toArray, List.getElem_cons_zero, List.getElem_cons_succ])
          | (refine wpAnyH_take (i := 9) (v := undef) rfl (by kernel_rfl) (by kernel_rfl) (by kernel_rfl) (fun _ _ _ h => h) (Or.inr ⟨by rfl, rfl⟩) hS ?_; try simp only [Act.put, List.setIfInBounds_toArray, List.set_cons_zero, List.set_cons_succ, List.getElem_toArray, List.getElem_cons_zero, List.getElem_cons_succ])
          first
          | (refine wpAnyH_take (i := 10) (v := ?_) rfl (by kernel_rfl) (by kernel_rfl) (by kernel_rfl) (fun _ _ _ h => h) (Or.inl ⟨by rfl, ?_⟩) hS ?_; rotate_left; (· (intro y hy; (try dsimp only at hy); go_simp; try with_reducible rfl)); try simp only [Act.put, List.setIfInBounds_toArray, List.set_cons_zero, List.set_cons_succ, List.getElem_toArray, List.getElem_cons_zero, List.getElem_cons_succ])
          | (refine wpAnyH_take (i := 10) (v := undef) rfl (by kernel_rfl) (by kernel_rfl) (by kernel_rfl) (fun _ _ _ h => h) (Or.inr ⟨by rfl, rfl⟩) hS ?_; try simp only [Act.put, List.setIfInBounds_toArray, List.set_cons_zero, List.set_cons_succ, List.getElem_toArray, List.getElem_cons_zero, List.getElem_cons_succ])
          first
          | (refine wpAnyH_take (i := 11) (v := ?_) rfl (by kernel_rfl) (by kernel_rfl) (by kernel_rfl) (fun _ _ _ h => h) (Or.inl ⟨by rfl, ?_⟩) hS ?_; rotate_left; (· (intro y hy; (try dsimp only at hy); go_simp; try with_reducible rfl)); try simp only [Act.put, List.setIfInBounds_toArray, List.set_cons_zero, List.set_cons_succ, List.getElem_toArray, List.getElem_cons_zero, List.getElem_cons_succ])
          | (refine wpAnyH_take (i := 11) (v := undef) rfl (by kernel_rfl) (by kernel_rfl) (by kernel_rfl) (fun _ _ _ h => h) (Or.inr ⟨by rfl, rfl⟩) hS ?_; try simp only [Act.put, List.setIfInBounds_toArray, List.set_cons_zero, List.set_cons_succ, List.getElem_toArray, List.getElem_cons_zero, List.getElem_cons_succ])
          refine wpAnyH_ready (rs := [6]) (by kernel_rfl) (by simp) ?_
          refine AllReadyH.cons (o := _) rfl (fun K hK => ?_) AllReadyH.nil
          go_simp
          refine (pick_nat xI 9 _ fI.1 fI.2 (by omega) (by omega)).mono ?_
          rintro e y ⟨k, hk, rfl, rfl⟩
          refine hK.out _ _ (hS) (fun hS => ?_)
          clear hK K
          try simp only [Act.put, List.setIfInBounds_toArray, List.set_cons_zero, List.set_cons_succ]
          refine wpAnyH_ready (rs := [12]) (by kernel_rfl) (by simp) ?_
          refine AllReadyH.cons (o := _) rfl (fun K hK => ?_) AllReadyH.nil
          go_simp
          refine (pick_nat xN 99 _ fN.1 fN.2 (by omega) (by omega)).mono ?_
          rintro e y ⟨v, hv, rfl, rfl⟩
          refine hK.out _ _ (hS) (fun hS => ?_)
          clear hK K
          try simp only [Act.put, List.setIfInBounds_toArray, List.set_cons_zero, List.set_cons_succ]
          refine wpAnyH_ready (rs := [13]) (by kernel_rfl) (by simp) ?_
          refine AllReadyH.cons (o := _) rfl (fun K hK => ?_) AllReadyH.nil
          go_simp
          refine (setPtr_inv k v hk hv hS.2.2.2).mono ?_
          rintro e y ⟨r, rfl, I2⟩
          refine hK.out _ _ (HC.out _ I2) (fun hS => ?_)
          clear hK K
          try simp only [Act.put, List.setIfInBounds_toArray, List.set_cons_zero, List.set_cons_succ]
          refine wpAnyH_done (by kernel_rfl) ?_ _
          clear hS I hk hv
          obtain ⟨cI, cN, cW, I⟩ := HC.out _ I2
          clear I2
          go_wp2
          refine wp_region_held_drew (S := fun y => y.cell? ⟨bo, off + j * 5 + 2, none⟩ = some (.int .i64 xI) ∧ y.cell? ⟨bo, off + j * 5 + 3, none⟩ = some (.int .i64 xN) ∧ y.cell? ⟨bo, off + j * 5 + 4, none⟩ = some (.int .u64 xW) ∧ Inv P b g4 p d wk fn #[.int .i64 a1x0, .int .i64 a1x1, .int .i64 a1x2] w y) (by kernel_rfl) (HC.out _ I.drew) (fun hS => ?_)
          clear cI cN cW
          first
          | (refine wpAnyH_take (i := 0) (v := ?_) rfl (by kernel_rfl) (by kernel_rfl) (by kernel_rfl) (fun _ _ _ h => h) (Or.inl ⟨by rfl, ?_⟩) hS ?_; rotate_left; (· (intro y hy; (try dsimp only at hy); go_simp; try with_reducible rfl)); try simp only [Act.put, List.setIfInBounds_toArray, List.set_cons_zero, List.set_cons_succ, List.getElem_toArray, List.getElem_cons_zero, List.getElem_cons_succ])
          | (refine wpAnyH_take (i := 0) (v := undef) rfl (by kernel_rfl) (by kernel_rfl) (by kernel_rfl) (fun _ _ _ h => h) (Or.inr ⟨by rfl, rfl⟩) hS ?_; try simp only [Act.put, List.setIfInBounds_toArray, List.set_cons_zero, List.set_cons_succ, List.getElem_toArray, List.getElem_cons_zero, List.getElem_cons_succ])
          first
          | (refine wpAnyH_take (i := 1) (v := ?_) rfl (by kernel_rfl) (by kernel_rfl) (by kernel_rfl) (fun _ _ _ h => h) (Or.inl ⟨by rfl, ?_⟩) hS ?_; rotate_left; (· (intro y hy; (try dsimp only at hy); go_simp; try with_reducible rfl)); try simp only [Act.put, List.setIfInBounds_toArray, List.set_cons_zero, List.set_cons_succ, List.getElem_toArray, List.getElem_cons_zero, List.getElem_cons_succ])
          | (refine wpAnyH_take (i := 1) (v := undef) rfl (by kernel_rfl) (by kernel_rfl) (by kernel_rfl) (fun _ _ _ h => h) (Or.inr ⟨by rfl, rfl⟩) hS ?_; try simp only [Act.put, List.setIfInBounds_toArray, List.set_cons_zero, List.set_cons_succ, List.getElem_toArray, List.getElem_cons_zero, List.getElem_cons_succ])
          first
          | (refine wpAnyH_take (i := 2) (v := ?_) rfl (by kernel_rfl) (by kernel_rfl) (by kernel_rfl) (fun _ _ _ h => h) (Or.inl ⟨by rfl, ?_⟩) hS ?_; rotate_left; (· (intro y hy; (try dsimp only at hy); go_simp; try with_reducible rfl)); try simp only [Act.put, List.setIfInBounds_toArray, List.set_cons_zero, List.set_cons_succ, List.getElem_toArray, List.getElem_cons_zero, List.getElem_cons_succ])
          | (refine wpAnyH_take (i := 2) (v := undef) rfl (by kernel_rfl) (by kernel_rfl) (by kernel_rfl) (fun _ _ _ h => h) (Or.inr ⟨by rfl, rfl⟩) hS ?_; try simp only [Act.put, List.setIfInBounds_toArray, List.set_cons_zero, List.set_cons_succ, List.getElem_toArray, List.getElem_cons_zero, List.getElem_cons_succ])
          first
          | (refine wpAnyH_take (i := 3) (v := ?_) rfl (by kernel_rfl) (by kernel_rfl) (by kernel_rfl) (fun _ _ _ h => h) (Or.inl ⟨by rfl, ?_⟩) hS ?_; rotate_left; (· (intro y hy; (try dsimp only at hy); go_simp; try with_reducible rfl)); try simp only [Act.put, List.setIfInBounds_toArray, List.set_cons_zero, List.set_cons_succ, List.getElem_toArray, List.getElem_cons_zero, List.getElem_cons_succ])
          | (refine wpAnyH_take (i := 3) (v := undef) rfl (by kernel_rfl) (by kernel_rfl) (by kernel_rfl) (fun _ _ _ h => h) (Or.inr ⟨by rfl, rfl⟩) hS ?_; try simp only [Act.put, List.setIfInBounds_toArray, List.set_cons_zero, List.set_cons_succ, List.getElem_toArray, List.getElem_cons_zero, List.getElem_cons_succ])
          first
          | (refine wpAnyH_take (i := 4) (v := ?_) rfl (by kernel_rfl) (by kernel_rfl) (by kernel_rfl) (fun _ _ _ h => h) (Or.inl ⟨by rfl, ?_⟩) hS ?_; rotate_left; (· (intro y hy; (try dsimp only at hy); go_simp; try with_reducible rfl)); try simp only [Act.put, List.setIfInBounds_toArray, List.set_cons_zero, List.set_cons_succ, List.getElem_toArray, List.getElem_cons_zero, List.getElem_cons_succ])
          | (refine wpAnyH_take (i := 4) (v := undef) rfl (by kernel_rfl) (by kernel_rfl) (by kernel_rfl) (fun _ _ _ h => h) (Or.inr ⟨by rfl, rfl⟩) hS ?_; try simp only [Act.put, List.setIfInBounds_toArray, List.set_cons_zero, List.set_cons_succ, List.getElem_toArray, List.getElem_cons_zero, List.getElem_cons_succ])
          first
          | (refine wpAnyH_take (i := 5) (v := ?_) rfl (by kernel_rfl) (by kernel_rfl) (by kernel_rfl) (fun _ _ _ h => h) (Or.inl ⟨by rfl, ?_⟩) hS ?_; rotate_left; (· (intro y hy; (try dsimp only at hy); go_simp; try with_reducible rfl)); try simp only [Act.put, List.setIfInBounds_toArray, List.set_cons_zero, List.set_cons_succ, List.getElem_toArray, List.getElem_cons_zero, List.getElem_cons_succ])
          | (refine wpAnyH_take (i := 5) (v := undef) rfl (by kernel_rfl) (by kernel_rfl) (by kernel_rfl) (fun _ _ _ h => h) (Or.inr ⟨by rfl, rfl⟩) hS ?_; try simp only [Act.put, List.setIfInBounds_toArray, List.set_cons_zero, List.set_cons_succ, List.getElem_toArray, List.getElem_cons_zero, List.getElem_cons_succ])
          first
          | (refine wpAnyH_take (i := 7) (v := ?_) rfl (by kernel_rfl) (by kernel_rfl) (by kernel_rfl) (fun _ _ _ h => h) (Or.inl ⟨by rfl, ?_⟩) hS ?_; rotate_left; (· (intro y hy; (try dsimp only at hy); go_simp; try with_reducible rfl)); try simp only [Act.put, List.setIfInBounds_toArray, List.set_cons_zero, List.set_cons_succ, List.getElem_toArray, List.getElem_cons_zero, List.getElem_cons_succ])
          | (refine wpAnyH_take (i := 7) (v := undef) rfl (by kernel_rfl) (by kernel_rfl) (by kernel_rfl) (fun _ _ _ h => h) (Or.inr ⟨by rfl, rfl⟩) hS ?_; try simp only [Act.put, List.setIfInBounds_toArray, List.set_cons_zero, List.set_cons_succ, List.getElem_toArray, List.getElem_cons_zero, List.getElem_cons_succ])
          first
          | (refine wpAnyH_take (i := 8) (v := ?_) rfl (by kernel_rfl) (by kernel_rfl) (by kernel_rfl) (fun _ _ _ h => h) (Or.inl ⟨by rfl, ?_⟩) hS ?_; rotate_left; (· (intro y hy; (try dsimp only at hy); go_simp; try with_reducible rfl)); try simp only [Act.put, List.setIfInBounds_toArray, List.set_cons_zero, List.set_cons_succ, List.getElem_toArray, List.getElem_cons_zero, List.getElem_cons_succ])
          | (refine wpAnyH_take (i := 8) (v := undef) rfl (by kernel_rfl) (by kernel_rfl) (by kernel_rfl) (fun _ _ _ h => h) (Or.inr ⟨by rfl, rfl⟩) hS ?_; try simp only [Act.put, List.setIfInBounds_toArray, List.set_cons_zero, List.set_cons_succ, List.getElem_toArray, List.getElem_cons_zero, List.getElem_cons_succ])
          first
          | (refine wpAnyH_take (i := 9) (v := ?_) rfl (by kernel_rfl) (by kernel_rfl) (by kernel_rfl) (fun _ _ _ h => h) (Or.inl ⟨by rfl, ?_⟩) hS ?_; rotate_left; (· (intro y hy; (try dsimp only at hy); go_simp; try with_reducible rfl)); try simp only [Act.put, List.setIfInBounds_toArray, List.set_cons_zero, List.set_cons_succ, List.getElem_toArray, List.getElem_cons_zero, List.getElem_cons_succ])
          | (refine wpAnyH_take (i := 9) (v := undef) rfl (by kernel_rfl) (by kernel_rfl) (by kernel_rfl) (fun _ _ _ h => h) (Or.inr ⟨by rfl, rfl⟩) hS ?_; try simp only [Act.put, List.setIfInBounds_toArray, List.set_cons_zero, List.set_cons_succ, List.getElem_toArray, List.getElem_cons_zero, List.getElem_cons_succ])
          first
          | (refine wpAnyH_take (i := 10) (v := ?_) rfl (by kernel_rfl) (by kernel_rfl) (by kernel_rfl) (fun _ _ _ h => h) (Or.inl ⟨by rfl, ?_⟩) hS ?_; rotate_left; (· (intro y hy; (try dsimp only at hy); go_simp; try with_reducible rfl)); try simp only [Act.put, List.setIfInBounds_toArray, List.set_cons_zero, List.set_cons_succ, List.getElem_toArray, List.getElem_cons_zero, List.getElem_cons_succ])
          | (refine wpAnyH_take (i := 10) (v := undef) rfl (by kernel_rfl) (by kernel_rfl) (by kernel_rfl) (fun _ _ _ h => h) (Or.inr ⟨by rfl, rfl⟩) hS ?_; try simp only [Act.put, List.setIfInBounds_toArray, List.set_cons_zero, List.set_cons_succ, List.getElem_toArray, List.getElem_cons_zero, List.getElem_cons_succ])
          first
          | (refine wpAnyH_take (i := 11) (v := ?_) rfl (by kernel_rfl) (by kernel_rfl) (by kernel_rfl) (fun _ _ _ h => h) (Or.inl ⟨by rfl, ?_⟩) hS ?_; rotate_left; (· (intro y hy; (try dsimp only at hy); go_simp; try with_reducible rfl)); try simp only [Act.put, List.setIfInBounds_toArray, List.set_cons_zero, List.set_cons_succ, List.getElem_toArray, List.getElem_cons_zero, List.getElem_cons_succ])
          | (refine wpAnyH_take (i := 11) (v := undef) rfl (by kernel_rfl) (by kernel_rfl) (by kernel_rfl) (fun _ _ _ h => h) (Or.inr ⟨by rfl, rfl⟩) hS ?_; try simp only [Act.put, List.setIfInBounds_toArray, List.set_cons_zero, List.set_cons_succ, List.getElem_toArray, List.getElem_cons_zero, List.getElem_cons_succ])
          refine wpAnyH_ready (rs := [6]) (by kernel_rfl) (by simp) ?_
          refine AllReadyH.cons (o := _) rfl (fun K hK => ?_) AllReadyH.nil
          go_simp
          refine (pick_nat xI 9 _ fI.1 fI.2 (by omega) (by omega)).mono ?_
          rintro e z ⟨k, hk, rfl, rfl⟩
          refine hK.out _ _ (hS) (fun hS => ?_)
          clear hK K
          try simp only [Act.put, List.setIfInBounds_toArray, List.set_cons_zero, List.set_cons_succ]
          refine wpAnyH_ready (rs := [12]) (by kernel_rfl) (by simp) ?_
          refine AllReadyH.cons (o := _) rfl (fun K hK => ?_) AllReadyH.nil
          go_simp
          refine (setNum_inv k xN hk fN.1 fN.2 hS.2.2.2).mono ?_
          rintro e z ⟨r, rfl, I2⟩
          refine hK.out _ _ (HC.out _ I2) (fun hS => ?_)
          clear hK K
          try simp only [Act.put, List.setIfInBounds_toArray, List.set_cons_zero, List.set_cons_succ]
          refine wpAnyH_done (by kernel_rfl) ?_ _
          clear hS I hk
          obtain ⟨cI, cN, cW, I⟩ := HC.out _ I2
          clear I2
          go_wp2_with fail
          refine (setSecond_inv xW fW I).mono ?_
          rintro e z2 ⟨r, rfl, I2⟩
          clear cI cN cW I
          obtain ⟨cI, cN, cW, I⟩ := HC.out _ I2
          clear I2
          go_wp2_with fail
          refine (setFreed_inv _ I).mono ?_
          rintro e z3 ⟨r, rfl, I2⟩
          clear cI cN cW I
          go_wp2
          go_roundw
          case rel => exact ⟨j + 1, by omega, by go_num, I2⟩
          case measure => simp [intOf]; omega
      · have hd : decide ((j : Int) < 20) = false := decide_eq_false (by omega)
        have G := Lib.hid I
        clear hops
        obtain ⟨L, fr, hLl, hA, -⟩ := I.here
        have h4 := I.blk
        have hB := I.below
        have hwb := I.own
        clear I hj
        obtain ⟨c0, c1, c2, l2⟩ := h4.facts3
        go_wp2_with fail
        refine (F'.tells _).mono ?_
        rintro e x2 ⟨rfl, hb⟩
        replace hA := hA.below hb hA.lt.1 hA.lt.2
        replace hB := hB.trans (hb.mono hB.size)
        clear hb h4 c0 c1 c2 l2 G
        go_wp2_with fail
        have h13 := BlkIs.new x2 #[.int .i64 p', .int .i64 d', .bool wk', .bool fn'] 27
        have ho := (Below.refl x2.heap.size x2).alloc (Nat.le_refl _) (.cells #[.int .i64 p', .int .i64 d', .bool wk', .bool fn'] 27)
        have hltA := hA.lt
        obtain ⟨g, eg⟩ : ∃ k, x2.heap.size = k := ⟨_, rfl⟩
        have hgb : ¬ g = b := by omega
        obtain ⟨x4, e4⟩ : ∃ x, x2.alloc (.cells #[.int .i64 p', .int .i64 d', .bool wk', .bool fn'] 27) = x := ⟨_, rfl⟩
        rw [e4] at h13 ho ⊢
        replace hA := hA.below ho hltA.1 hltA.2
        replace hB := hB.trans (ho.mono hB.size)
        rw [eg] at h13 ⊢
        clear ho hltA eg e4
        have hr := F'.right
        have hp := F'.ptrs
        have hd := F'.data
        clear F' x2
        have M1 := make_yes 0 9 x4 hA hr hp hd (by omega) (by omega)
        have hO := madeL_obj (l := L) (a := 0) 9 hr hp hd (by omega)
        have hL : ∀ j, j < 60 → (madeL L 0 p' d' wk' fn' 9).getD j 0 = if j = 0 + 2 then ((9 : Nat) : Int) else if j = 0 then ((headN p' d' wk' fn' false : Nat) : Int) else if 0 ≤ j ∧ j < 0 + (3 + p' + d') then 0 else L.getD j 0 := fun j hj => madeL_at (by omega)
        have hll : (madeL L 0 p' d' wk' fn' 9).length = 60 := by rw [madeL_length]; exact hLl
        generalize madeL L 0 p' d' wk' fn' 9 = M at *
        refine M1.mono ?_
        rintro e x5 ⟨rfl, hA2, hc⟩
        replace h13 := h13.chg hc hgb
        replace hB := hB.trans (hc.below (fun k e => by omega) hB.size)
        clear hc M1 hA
        have M1 := shape_at 0 x5 hA2 hO
        go_wp2_with fail
        refine M1.mono ?_
        rintro e x6 ⟨rfl, hb⟩
        have o5 := h13.lt
        replace h13 := h13.on hb
        replace hA2 := hA2.below hb hA2.lt.1 hA2.lt.2
        replace hB := hB.trans (hb.mono hB.size)
        have o6 : g < x6.heap.size := h13.lt
        clear hb M1
        have h14 := BlkIs.new x6 #[.int .i64 p', .int .i64 d', .bool wk', .bool fn'] 27
        have ho := (Below.refl x6.heap.size x6).alloc (Nat.le_refl _) (.cells #[.int .i64 p', .int .i64 d', .bool wk', .bool fn'] 27)
        replace h13 := h13.on ho
        replace hA := hA2.below ho hA2.lt.1 hA2.lt.2
        replace hB := hB.trans (ho.mono hB.size)
        clear ho hA2
        have M1 := serial_at 0 _ hA hO (by rw [hL (0 + 2) (by omega), if_pos rfl]; omega)
        rw [hL (0 + 2) (by omega), if_pos rfl] at M1
        go_wp2_with fail
        obtain ⟨g14, eg⟩ : ∃ k, x6.heap.size = k := ⟨_, rfl⟩
        obtain ⟨x7, e7⟩ : ∃ x, x6.alloc (.cells #[.int .i64 p', .int .i64 d', .bool wk', .bool fn'] 27) = x := ⟨_, rfl⟩
        rw [e7] at h13 h14 hA hB M1 ⊢
        rw [eg] at h14 ⊢
        have o14 : ¬ g = g14 := by omega
        clear eg e7 o5 o6 x6
        refine M1.mono ?_
        rintro e x8 ⟨rfl, hb⟩
        replace h13 := h13.on hb
        replace h14 := h14.on hb
        replace hA := hA.below hb hA.lt.1 hA.lt.2
        replace hB := hB.trans (hb.mono hB.size)
        clear hb M1
        have M1 := second_at 0 x8 hA hO
        rw [hL (0 + 1) (by omega), if_neg (by omega), if_neg (by omega), if_pos (by omega)] at M1
        go_wp2_with fail
        refine M1.mono ?_
        rintro e x9 ⟨rfl, hb⟩
        replace h13 := h13.on hb
        replace h14 := h14.on hb
        replace hA := hA.below hb hA.lt.1 hA.lt.2
        replace hB := hB.trans (hb.mono hB.size)
        clear hb M1
        have HL := Lib.hid hL
        clear hL
        go_wp2
        obtain ⟨wo, ewo⟩ : ∃ wo : World, wo = wr := ⟨_, rfl⟩
        subst ewo
        go_loopw [21] (fun i wr => ∃ j : Nat, j ≤ p' ∧ i = .int .i64 j ∧ ArenaAt 75 wr P b M ∧ BlkIs wr g #[.int .i64 p', .int .i64 d', .bool wk', .bool fn'] 27 ∧ BlkIs wr g14 #[.int .i64 p', .int .i64 d', .bool wk', .bool fn'] 27 ∧ Below w.heap.size w wr) (fun i _ => p' - (intOf i).toNat)
        case atStart => exact ⟨0, by omega, rfl, hA, h13, h14, hB⟩
        case round =>
          clear hA h13 h14 hB
          obtain ⟨j, hj, rfl, hA, h13, h14, hB⟩ := hrel
          obtain ⟨⟨c0, c1, c2, c3⟩, f0, f1, f2, f3, l1⟩ := h13.facts4
          by_cases hlt : j < p'
          · have hd1 : decide ((j : Int) < (p' : Int)) = true := decide_eq_true (by omega)
            have E := HL.out (0 + (3 + j)) (by omega)
            rw [if_neg (by omega), if_neg (by omega), if_pos (by omega)] at E
            have M1 := ptr_at 0 j _ hA hO hlt (by rw [E]; omega)
            rw [E] at M1
            clear E
            go_wp2_with fail
            refine M1.mono ?_
            rintro e y ⟨rfl, hb⟩
            replace h13 := h13.on hb
            replace h14 := h14.on hb
            replace hA := hA.below hb hA.lt.1 hA.lt.2
            replace hB := hB.trans (hb.mono hB.size)
            clear hb M1 c0 c1 c2 c3 f0 f1 f2 f3 l1
            go_wp2
            go_roundw
            case rel => exact ⟨j + 1, by omega, by go_num, hA, h13, h14, hB⟩
            case measure => simp [intOf]; omega
          · have hd1 : decide ((j : Int) < (p' : Int)) = false := decide_eq_false (by omega)
            go_wp2
            clear hj hlt hd1 c0 c1 c2 c3 f0 f1 f2 f3 l1
            obtain ⟨wo2, ewo⟩ : ∃ wo : World, wo = wr := ⟨_, rfl⟩
            subst ewo
            go_loopw [24] (fun i wr => ∃ j : Nat, j ≤ d' ∧ i = .int .i64 j ∧ ArenaAt 75 wr P b M ∧ BlkIs wr g #[.int .i64 p', .int .i64 d', .bool wk', .bool fn'] 27 ∧ BlkIs wr g14 #[.int .i64 p', .int .i64 d', .bool wk', .bool fn'] 27 ∧ Below w.heap.size w wr) (fun i _ => d' - (intOf i).toNat)
            case atStart => exact ⟨0, by omega, rfl, hA, h13, h14, hB⟩
            case round =>
              clear hA h13 h14 hB
              obtain ⟨j, hj, rfl, hA, h13, h14, hB⟩ := hrel
              obtain ⟨⟨c0, c1, c2, c3⟩, f0, f1, f2, f3, l1⟩ := h13.facts4
              by_cases hlt : j < d'
              · have hd1 : decide ((j : Int) < (d' : Int)) = true := decide_eq_true (by omega)
                have E := HL.out (0 + (3 + p' + j)) (by omega)
                rw [if_neg (by omega), if_neg (by omega), if_pos (by omega)] at E
                have M1 := num_at 0 j 0 _ hA hO hlt (by decide) (by decide) (by rw [E]; decide)
                clear E
                go_wp2_with fail
                refine M1.mono ?_
                rintro e y ⟨rfl, hb⟩
                replace h13 := h13.on hb
                replace h14 := h14.on hb
                replace hA := hA.below hb hA.lt.1 hA.lt.2
                replace hB := hB.trans (hb.mono hB.size)
                clear hb M1 c0 c1 c2 c3 f0 f1 f2 f3 l1
                go_wp2
                go_roundw
                case rel => exact ⟨j + 1, by omega, by go_num, hA, h13, h14, hB⟩
                case measure => simp [intOf]; omega
              · have hd1 : decide ((j : Int) < (d' : Int)) = false := decide_eq_false (by omega)
                obtain ⟨⟨e0, e1, e2, e3⟩, g0, g1, g2, g3, l2⟩ := h14.facts4
                go_wp2
                go_ret
                exact ⟨by simp, hB⟩
    · have hd0 : decide (j < len2) = false := decide_eq_false h0
      have G := Lib.hid I
      clear hops
      obtain ⟨L, fr, hLl, hA, -⟩ := I.here
      have h4 := I.blk
      have hB := I.below
      have hwb := I.own
      clear I hj
      obtain ⟨c0, c1, c2, l2⟩ := h4.facts3
      go_wp2_with fail
      refine (F'.tells _).mono ?_
      rintro e x2 ⟨rfl, hb⟩
      replace hA := hA.below hb hA.lt.1 hA.lt.2
      replace hB := hB.trans (hb.mono hB.size)
      clear hb h4 c0 c1 c2 l2 G
      go_wp2_with fail
      have h13 := BlkIs.new x2 #[.int .i64 p', .int .i64 d', .bool wk', .bool fn'] 27
      have ho := (Below.refl x2.heap.size x2).alloc (Nat.le_refl _) (.cells #[.int .i64 p', .int .i64 d', .bool wk', .bool fn'] 27)
      have hltA := hA.lt
      obtain ⟨g, eg⟩ : ∃ k, x2.heap.size = k := ⟨_, rfl⟩
      have hgb : ¬ g = b := by omega
      obtain ⟨x4, e4⟩ : ∃ x, x2.alloc (.cells #[.int .i64 p', .int .i64 d', .bool wk', .bool fn'] 27) = x := ⟨_, rfl⟩
      rw [e4] at h13 ho ⊢
      replace hA := hA.below ho hltA.1 hltA.2
      replace hB := hB.trans (ho.mono hB.size)
      rw [eg] at h13 ⊢
      clear ho hltA eg e4
      have hr := F'.right
      have hp := F'.ptrs
      have hd := F'.data
      clear F' x2
      have M1 := make_yes 0 9 x4 hA hr hp hd (by omega) (by omega)
      have hO := madeL_obj (l := L) (a := 0) 9 hr hp hd (by omega)
      have hL : ∀ j, j < 60 → (madeL L 0 p' d' wk' fn' 9).getD j 0 = if j = 0 + 2 then ((9 : Nat) : Int) else if j = 0 then ((headN p' d' wk' fn' false : Nat) : Int) else if 0 ≤ j ∧ j < 0 + (3 + p' + d') then 0 else L.getD j 0 := fun j hj => madeL_at (by omega)
      have hll : (madeL L 0 p' d' wk' fn' 9).length = 60 := by rw [madeL_length]; exact hLl
      generalize madeL L 0 p' d' wk' fn' 9 = M at *
      refine M1.mono ?_
      rintro e x5 ⟨rfl, hA2, hc⟩
      replace h13 := h13.chg hc hgb
      replace hB := hB.trans (hc.below (fun k e => by omega) hB.size)
      clear hc M1 hA
      have M1 := shape_at 0 x5 hA2 hO
      go_wp2_with fail
      refine M1.mono ?_
      rintro e x6 ⟨rfl, hb⟩
      have o5 := h13.lt
      replace h13 := h13.on hb
      replace hA2 := hA2.below hb hA2.lt.1 hA2.lt.2
      replace hB := hB.trans (hb.mono hB.size)
      have o6 : g < x6.heap.size := h13.lt
      clear hb M1
      have h14 := BlkIs.new x6 #[.int .i64 p', .int .i64 d', .bool wk', .bool fn'] 27
      have ho := (Below.refl x6.heap.size x6).alloc (Nat.le_refl _) (.cells #[.int .i64 p', .int .i64 d', .bool wk', .bool fn'] 27)
      replace h13 := h13.on ho
      replace hA := hA2.below ho hA2.lt.1 hA2.lt.2
      replace hB := hB.trans (ho.mono hB.size)
      clear ho hA2
      have M1 := serial_at 0 _ hA hO (by rw [hL (0 + 2) (by omega), if_pos rfl]; omega)
      rw [hL (0 + 2) (by omega), if_pos rfl] at M1
      go_wp2_with fail
      obtain ⟨g14, eg⟩ : ∃ k, x6.heap.size = k := ⟨_, rfl⟩
      obtain ⟨x7, e7⟩ : ∃ x, x6.alloc (.cells #[.int .i64 p', .int .i64 d', .bool wk', .bool fn'] 27) = x := ⟨_, rfl⟩
      rw [e7] at h13 h14 hA hB M1 ⊢
      rw [eg] at h14 ⊢
      have o14 : ¬ g = g14 := by omega
      clear eg e7 o5 o6 x6
      refine M1.mono ?_
      rintro e x8 ⟨rfl, hb⟩
      replace h13 := h13.on hb
      replace h14 := h14.on hb
      replace hA := hA.below hb hA.lt.1 hA.lt.2
      replace hB := hB.trans (hb.mono hB.size)
      clear hb M1
      have M1 := second_at 0 x8 hA hO
      rw [hL (0 + 1) (by omega), if_neg (by omega), if_neg (by omega), if_pos (by omega)] at M1
      go_wp2_with fail
      refine M1.mono ?_
      rintro e x9 ⟨rfl, hb⟩
      replace h13 := h13.on hb
      replace h14 := h14.on hb
      replace hA := hA.below hb hA.lt.1 hA.lt.2
      replace hB := hB.trans (hb.mono hB.size)
      clear hb M1
      have HL := Lib.hid hL
      clear hL
      go_wp2
      obtain ⟨wo, ewo⟩ : ∃ wo : World, wo = wr := ⟨_, rfl⟩
      subst ewo
      go_loopw [21] (fun i wr => ∃ j : Nat, j ≤ p' ∧ i = .int .i64 j ∧ ArenaAt 75 wr P b M ∧ BlkIs wr g #[.int .i64 p', .int .i64 d', .bool wk', .bool fn'] 27 ∧ BlkIs wr g14 #[.int .i64 p', .int .i64 d', .bool wk', .bool fn'] 27 ∧ Below w.heap.size w wr) (fun i _ => p' - (intOf i).toNat)
      case atStart => exact ⟨0, by omega, rfl, hA, h13, h14, hB⟩
      case round =>
        clear hA h13 h14 hB
        obtain ⟨j, hj, rfl, hA, h13, h14, hB⟩ := hrel
        obtain ⟨⟨c0, c1, c2, c3⟩, f0, f1, f2, f3, l1⟩ := h13.facts4
        by_cases hlt : j < p'
        · have hd1 : decide ((j : Int) < (p' : Int)) = true := decide_eq_true (by omega)
          have E := HL.out (0 + (3 + j)) (by omega)
          rw [if_neg (by omega), if_neg (by omega), if_pos (by omega)] at E
          have M1 := ptr_at 0 j _ hA hO hlt (by rw [E]; omega)
          rw [E] at M1
          clear E
          go_wp2_with fail
          refine M1.mono ?_
          rintro e y ⟨rfl, hb⟩
          replace h13 := h13.on hb
          replace h14 := h14.on hb
          replace hA := hA.below hb hA.lt.1 hA.lt.2
          replace hB := hB.trans (hb.mono hB.size)
          clear hb M1 c0 c1 c2 c3 f0 f1 f2 f3 l1
          go_wp2
          go_roundw
          case rel => exact ⟨j + 1, by omega, by go_num, hA, h13, h14, hB⟩
          case measure => simp [intOf]; omega
        · have hd1 : decide ((j : Int) < (p' : Int)) = false := decide_eq_false (by omega)
          go_wp2
          clear hj hlt hd1 c0 c1 c2 c3 f0 f1 f2 f3 l1
          obtain ⟨wo2, ewo⟩ : ∃ wo : World, wo = wr := ⟨_, rfl⟩
          subst ewo
          go_loopw [24] (fun i wr => ∃ j : Nat, j ≤ d' ∧ i = .int .i64 j ∧ ArenaAt 75 wr P b M ∧ BlkIs wr g #[.int .i64 p', .int .i64 d', .bool wk', .bool fn'] 27 ∧ BlkIs wr g14 #[.int .i64 p', .int .i64 d', .bool wk', .bool fn'] 27 ∧ Below w.heap.size w wr) (fun i _ => d' - (intOf i).toNat)
          case atStart => exact ⟨0, by omega, rfl, hA, h13, h14, hB⟩
          case round =>
            clear hA h13 h14 hB
            obtain ⟨j, hj, rfl, hA, h13, h14, hB⟩ := hrel
            obtain ⟨⟨c0, c1, c2, c3⟩, f0, f1, f2, f3, l1⟩ := h13.facts4
            by_cases hlt : j < d'
            · have hd1 : decide ((j : Int) < (d' : Int)) = true := decide_eq_true (by omega)
              have E := HL.out (0 + (3 + p' + j)) (by omega)
              rw [if_neg (by omega), if_neg (by omega), if_pos (by omega)] at E
              have M1 := num_at 0 j 0 _ hA hO hlt (by decide) (by decide) (by rw [E]; decide)
              clear E
              go_wp2_with fail
              refine M1.mono ?_
              rintro e y ⟨rfl, hb⟩
              replace h13 := h13.on hb
              replace h14 := h14.on hb
              replace hA := hA.below hb hA.lt.1 hA.lt.2
              replace hB := hB.trans (hb.mono hB.size)
              clear hb M1 c0 c1 c2 c3 f0 f1 f2 f3 l1
              go_wp2
              go_roundw
              case rel => exact ⟨j + 1, by omega, by go_num, hA, h13, h14, hB⟩
              case measure => simp [intOf]; omega
            · have hd1 : decide ((j : Int) < (d' : Int)) = false := decide_eq_false (by omega)
              obtain ⟨⟨e0, e1, e2, e3⟩, g0, g1, g2, g3, l2⟩ := h14.facts4
              go_wp2
              go_ret
              exact ⟨by simp, hB⟩

set_option maxRecDepth 100000 in
theorem lifted (os : Os) (started : os.Started) (H : Type) (enc : TypeId × Value → H) :
    ReturnsInHanded {} Try.checked os 5 .any (Rows.objectAgainSpec.pre6 enc Try.prog Try.f5 Rows.objectAgainRow.domain false) (Rows.objectAgainSpec.post enc Try.prog Try.f5 false true false false) := by
  refine returnsInHanded_of_change (C := Try.checked) own started (by kernel_rfl) Try.func5
    (ChangeSpec.witness6 (enc := enc) (C := Try.checked) false ⟨#[], #[.agg #[.int .i64 0, .int .i64 0, .int .i64 0], .agg #[.int .i64 0, .int .i64 0, .int .i64 0], .slice none 0 0], []⟩ 8 (by kernel_rfl) (by kernel_rfl) (by kernel_rfl) (by kernel_rfl)) ?_
  intro W base args ds gs before hval0 hW hcnd _
  have hval : ∀ (j : Nat) t v, Try.f5.params[j]? = some t → args[j]? = some v → Value.okWide Try.prog W .any base t v := hval0
  have hW' := hW
  obtain ⟨p, q, hA0, hV, rfl, hfz, hnd⟩ := hW
  have hA : DataW.TrodAll enc Try.prog W 0 (fun _ => true) true Try.f5.params.toList args.toList ds p := hA0
  rw [Try.params5] at hA hval
  obtain ⟨v0, vs0, d0, ds0, p0, q0, hargs, rfl, rfl, h0, r0⟩ := trodAll_cons hA
  obtain ⟨v1, vs1, d1, ds1, p1, q1, rfl, rfl, rfl, h1, r1⟩ := trodAll_cons r0
  obtain ⟨v2, vs2, d2, ds2, p2, q2, rfl, rfl, rfl, h2, r2⟩ := trodAll_cons r1
  obtain ⟨rfl, rfl, rfl⟩ := trodAll_nil r2
  obtain rfl : args = #[v0, v1, v2] := by cases args; simp_all
  obtain ⟨rfl, rfl⟩ := trodVars_none hV
  have k0 := h0
  have lt0 : ∀ x ∈ p0, x.block < W.heap.size := by obtain ⟨m, hm⟩ := k0; exact DataW.trod_lt m _ _ _ hm
  have ce0 : Try.prog.cellsOf 3 = 1 := by kernel_rfl
  have cc0 : Try.prog.cellsOf 22 = 3 := by kernel_rfl
  have x0 := open_ints_array Try.underlying22 Try.underlying3 ce0 cc0 (hval 0 22 v0 rfl rfl) h0
  obtain ⟨z0, hl0, hv0, hz0⟩ := x0
  subst hv0
  have y0 := list3 hl0
  obtain ⟨a0x0, a0x1, a0x2, hy0⟩ := y0
  subst hy0
  have w0x0 := bounds_i64 (hz0 a0x0 (by simp))
  have w0x1 := bounds_i64 (hz0 a0x1 (by simp))
  have w0x2 := bounds_i64 (hz0 a0x2 (by simp))
  have k1 := h1
  have lt1 : ∀ x ∈ p1, x.block < W.heap.size := by obtain ⟨m, hm⟩ := k1; exact DataW.trod_lt m _ _ _ hm
  have ce1 : Try.prog.cellsOf 3 = 1 := by kernel_rfl
  have cc1 : Try.prog.cellsOf 22 = 3 := by kernel_rfl
  have x1 := open_ints_array Try.underlying22 Try.underlying3 ce1 cc1 (hval 1 22 v1 rfl rfl) h1
  obtain ⟨z1, hl1, hv1, hz1⟩ := x1
  subst hv1
  have y1 := list3 hl1
  obtain ⟨a1x0, a1x1, a1x2, hy1⟩ := y1
  subst hy1
  have w1x0 := bounds_i64 (hz1 a1x0 (by simp))
  have w1x1 := bounds_i64 (hz1 a1x1 (by simp))
  have w1x2 := bounds_i64 (hz1 a1x2 (by simp))
  obtain ⟨a2, len2, cap2, rfl⟩ := okWide_slice Try.underlying23 (hval 2 23 v2 rfl rfl)
  have k2 := h2
  have lt2 : ∀ x ∈ p2, x.block < W.heap.size := by obtain ⟨m, hm⟩ := k2; exact DataW.trod_lt m _ _ _ hm
  obtain ⟨z2, w2⟩ := open_flats (n := 8) (ks := opKinds) Try.underlying23 (by kernel_rfl) (by kernel_rfl) (by decide) h2
  clear hA0 hval0
  refine (walk a0x0 a0x1 a0x2 a1x0 a1x1 a1x2 a2 len2 cap2 z2 W w0x0 w0x1 w0x2 w1x0 w1x1 w1x2 w2).mono fun e W' ⟨he, bel⟩ => ?_
  subst he
  exact ⟨_, rfl, _, _, _, [], _, [], hW', trodAll_mk1 (shut_bool Try.underlying4 _), (trodAll_cons_mk (Below.trod laidOut (by kernel_rfl) (of_decide_eq_true (by kernel_rfl)) k0 bel lt0) (trodAll_cons_mk (Below.trod laidOut (by kernel_rfl) (of_decide_eq_true (by kernel_rfl)) k1 bel lt1) (trodAll_cons_mk (Below.trod laidOut (by kernel_rfl) (of_decide_eq_true (by kernel_rfl)) k2 bel lt2) trodAll_mk0))), rfl, bel.frame _, fun h => by cases h⟩

theorem over : Rows.objectAgainRow.holds Try.pinned (OpenSpec.ofChange Rows.objectAgainSpec) :=
  OpenClaim.holds_of_wide 5 Try.f5 rfl rfl rfl rfl rfl rfl rfl ⟨rfl, rfl, rfl, rfl, rfl⟩ rfl rfl rfl rfl rfl (by kernel_rfl) Try.func5 (by kernel_rfl)
    (of_decide_eq_true (by kernel_rfl)) (by unfold Func.isWrapper; first | (rw [if_pos (by decide +kernel)]; kernel_rfl) | (rw [if_neg (by decide +kernel)]; exact ⟨rfl, rfl⟩))
    (fun os started H enc _ => lifted os started H enc)

theorem proved : Rows.ObjectAgainSaid := over
#print axioms proved

end Go.Proofs.Ytencoabgdnmbaaa.objectAgain
