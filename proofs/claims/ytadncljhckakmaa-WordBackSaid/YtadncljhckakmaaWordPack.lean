/- The contract of package word's Pack: at right widths and numbers that fit it hands back the packed word and true, and nothing that lay has turned. -/
import Derived.Test.YtadncljhckakmaaWordIter
import Derived.Deep.RegionHeld3
namespace Go.Proofs.Ytadncljhckakmaa
open Go.RowKit Go.Shelf

set_option linter.unusedSimpArgs false
set_option linter.unusedVariables false
attribute [local go_sem] Oper.semAt_some

/-- A slice of numbers of 64 bits, in a block below n₀: element j is f j. -/
def WordsAt (n₀ : Nat) (W : World) (sv : Value) (len : Nat) (f : Nat → Int) : Prop :=
  (len = 0 ∧ ∃ a cap, sv = .slice a 0 cap) ∨ ∃ b off cap, sv = .slice (some ⟨b, off, none⟩) len cap ∧ b < n₀ ∧ ∀ j, j < len → W.cell? ⟨b, off + j, none⟩ = some (.int .u64 (f j))
theorem WordsAt.below {n₀ : Nat} {A B : World} (h : Below n₀ A B) {sv : Value} {len : Nat} {f : Nat → Int} : WordsAt n₀ A sv len f → WordsAt n₀ B sv len f
  | .inl e => .inl e
  | .inr ⟨b, off, cap, e, hb, hc⟩ => .inr ⟨b, off, cap, e, hb, fun j hj => (h.cell (p := ⟨b, off + j, none⟩) hb).trans (hc j hj)⟩

/-- The widths, the places of the parts, the numbers, as ints. -/
def dvOf (ds : List Nat) (k : Nat) : Int := ((ds.getD k 0 : Nat) : Int)
def svOf (ds : List Nat) (k : Nat) : Int := ((Wd.sh ds k : Nat) : Int)
theorem svOf_zero (ds : List Nat) : svOf ds 0 = 0 := by simp [svOf, Wd.sh_zero]
theorem svOf_succ (ds : List Nat) (k : Nat) : svOf ds (k + 1) = svOf ds k + dvOf ds k := by simp only [svOf, dvOf, Wd.sh_succ]; omega
theorem svOf_right (ds : List Nat) (hs : ds.sum ≤ 64) (h1 : ∀ d ∈ ds, 1 ≤ d) (k : Nat) (hk : k < ds.length) : 0 ≤ svOf ds k ∧ 1 ≤ dvOf ds k ∧ svOf ds k + dvOf ds k ≤ 64 := by
  have a := Wd.sh_in ds k
  have b := h1 (ds.getD k 0) (by simp [List.getD, hk])
  simp only [svOf, dvOf]
  omega

/-- A part in a block abides what an iterator may do. -/
theorem partAt_own {β : Type} (b : Nat) (s d : Int) : Own (fun (_ : β) W => PartAt W b s d) := fun _ _ _ _ hs hg hr =>
  ⟨cell_kept hs.1 hg hr, cell_kept hs.2.1 hg hr, Nat.lt_of_lt_of_le hs.2.2 hg.size⟩

def accOf (ds vs : List Nat) (l : List (Fin ds.length)) : Int := ((Wd.acc ds vs (l.map Fin.val) : Nat) : Int)

theorem accOf_bounds (ds vs : List Nat) (hs : ds.sum ≤ 64) (hv : Hid (∀ k, vs.getD k 0 < 2 ^ ds.getD k 0)) (l : List (Fin ds.length)) : 0 ≤ accOf ds vs l ∧ accOf ds vs l < 18446744073709551616 := by
  have := Wd.acc_lt ds vs (l.map Fin.val) hs hv.out
  unfold accOf
  omega
theorem accOf_snoc (ds vs : List Nat) (l : List (Fin ds.length)) (x : Fin ds.length) :
    ((Wd.set (accOf ds vs l).toNat (svOf ds x.1).toNat (dvOf ds x.1).toNat (dvOf vs x.1).toNat : Nat) : Int) = accOf ds vs (l ++ [x]) := by
  unfold accOf svOf dvOf
  simp only [Int.toNat_natCast]
  rw [List.map_append, List.map_cons, List.map_nil, Wd.acc_snoc]
theorem dv_fits (ds vs : List Nat) (hv : Hid (∀ k, vs.getD k 0 < 2 ^ ds.getD k 0)) (k : Nat) : dvOf vs k ≤ ((Wd.most (dvOf ds k).toNat : Nat) : Int) := by
  have := hv.out k
  unfold dvOf Wd.most
  rw [Int.toNat_natCast]
  omega

set_option maxRecDepth 100000 in
set_option maxHeartbeats 4000000 in
theorem pack_any (ds vs : List Nat) (hs : ds.sum ≤ 64) (h1 : ∀ d ∈ ds, 1 ≤ d) (hv : Hid (∀ k, vs.getD k 0 < 2 ^ ds.getD k 0)) (hlen : Hid (vs.length = ds.length)) (hl64 : ds.length ≤ 64)
    (a b : Option Addr) (ca cb : Nat) (w : World) (ha : IntsAt w.heap.size w (.slice a ds.length ca) ds.length (dvOf ds)) (hb : WordsAt w.heap.size w (.slice b ds.length cb) ds.length (dvOf vs)) :
    Calls Try.prog 16 #[.slice a ds.length ca, .slice b ds.length cb] w fun e w' => e = .returned (.tuple #[.int .u64 ((Wd.acc ds vs (List.range ds.length) : Nat) : Int), .bool true]) ∧ Below w.heap.size w w' := by
  have hfR : Fence.wide.fn 22 := trivial
  have hfS : Fence.wide.fn 13 := trivial
  have hfP : Fence.wide.fn 24 := trivial
  refine (callsIn_wide (n := 9)).1 ?_
  refine callsIn_of_wp_marks Try.func16 rfl trivial ?_ rfl
  simp only [Try.ntmps16, List.size_toArray, List.length_cons, List.length_nil, Nat.reduceAdd, Nat.reduceSub, Array.replicate_succ, Array.replicate_zero, List.push_toArray, List.append_toArray, List.nil_append, List.cons_append]
  gi_wp2_with (gi_at_call 24; refine (parts_any _ _ _ _ _).mono ?_; rintro e w' ⟨rfl, rfl⟩)
  have bL := ((((Boxed.new w 34 (.slice b ds.length cb)).alloc (.cells #[.int .u64 0] 22)).alloc (.cells #[.bool false] 4)).alloc (.cells #[.int .u64 0] 22)).alloc (.cells #[.slice a ds.length ca] 33)
  have bR := (((Boxed.new (w.alloc (.cells #[.slice b ds.length cb] 34)) 22 (.int .u64 0)).alloc (.cells #[.bool false] 4)).alloc (.cells #[.int .u64 0] 22)).alloc (.cells #[.slice a ds.length ca] 33)
  have bE := ((Boxed.new ((w.alloc (.cells #[.slice b ds.length cb] 34)).alloc (.cells #[.int .u64 0] 22)) 4 (.bool false)).alloc (.cells #[.int .u64 0] 22)).alloc (.cells #[.slice a ds.length ca] 33)
  have bW := (Boxed.new (((w.alloc (.cells #[.slice b ds.length cb] 34)).alloc (.cells #[.int .u64 0] 22)).alloc (.cells #[.bool false] 4)) 22 (.int .u64 0)).alloc (.cells #[.slice a ds.length ca] 33)
  have bP := Boxed.new ((((w.alloc (.cells #[.slice b ds.length cb] 34)).alloc (.cells #[.int .u64 0] 22)).alloc (.cells #[.bool false] 4)).alloc (.cells #[.int .u64 0] 22)) 33 (.slice a ds.length ca)
  simp only [World.size_alloc] at bL bR bE bW bP
  have hB0 : Below w.heap.size w (((((w.alloc (.cells #[.slice b ds.length cb] 34)).alloc (.cells #[.int .u64 0] 22)).alloc (.cells #[.bool false] 4)).alloc (.cells #[.int .u64 0] 22)).alloc (.cells #[.slice a ds.length ca] 33)) :=
    (((((Below.refl _ w).alloc (Nat.le_refl _) _).alloc (by simp) _).alloc (by simp; omega) _).alloc (by simp; omega) _).alloc (by simp; omega) _
  have hsz : (((((w.alloc (.cells #[.slice b ds.length cb] 34)).alloc (.cells #[.int .u64 0] 22)).alloc (.cells #[.bool false] 4)).alloc (.cells #[.int .u64 0] 22)).alloc (.cells #[.slice a ds.length ca] 33)).heap.size = w.heap.size + 5 := by simp
  obtain ⟨W0, hW0⟩ : ∃ W0, ((((w.alloc (.cells #[.slice b ds.length cb] 34)).alloc (.cells #[.int .u64 0] 22)).alloc (.cells #[.bool false] 4)).alloc (.cells #[.int .u64 0] 22)).alloc (.cells #[.slice a ds.length ca] 33) = W0 := ⟨_, rfl⟩
  rw [hW0] at bL bR bE bW bP hB0 hsz ⊢
  clear hW0
  refine wpIn_rangeFunc_ownH rfl (by omega) (gf := 25) (lb := #[.pointer (some ⟨w.heap.size + 1 + 1 + 1 + 1, 0, none⟩)]) rfl trivial (enters_of Try.func25 (by kernel_rfl) rfl)
    (parts_stops 8 (by omega) (w.heap.size + 1 + 1 + 1 + 1) w.heap.size (w.heap.size + 5) ds.length _ (svOf ds) (dvOf ds) (by omega) (svOf_zero ds) (svOf_succ ds) (svOf_right ds hs h1) W0 (by omega) (by omega) (by omega) bP.cell (ha.below hB0))
    Kp2.trans (fun W l o o' hl h hc hw => Kp2.putObj (w := W0) (by omega) W l o o' hl h hc hw) (Below.refl _ _) (fun _ => rfl)
    (fun pre W => (((Boxed W (w.heap.size + 1 + 1 + 1) 22 (.int .u64 (accOf ds vs pre)) ∧ Boxed W w.heap.size 34 (.slice b ds.length cb)) ∧ Boxed W (w.heap.size + 1) 22 (.int .u64 0)) ∧ Boxed W (w.heap.size + 1 + 1) 4 (.bool false)) ∧ Below w.heap.size W0 W)
    (fun _ _ _ => False)
    (OwnFrom.and (OwnFrom.and (OwnFrom.and (OwnFrom.and (Own.from (boxed_own _ _ _) _) (Own.from (boxed_own _ _ _) _)) (Own.from (boxed_own _ _ _) _)) (Own.from (boxed_own _ _ _) _)) (ownFrom_below (by omega) (by omega)))
    (fun _ _ _ _ _ hs _ _ => hs)
    ⟨⟨⟨⟨bW, bL⟩, bR⟩, bE⟩, Below.refl _ _⟩
    (fun x a' W => ∃ Bx, w.heap.size + 5 ≤ Bx ∧ PartAt W Bx (svOf ds x.1) (dvOf ds x.1) ∧ a' = { tmps := #[.slice a ds.length ca, .slice b ds.length cb, undef, .pointer (some ⟨w.heap.size, 0, none⟩), .pointer (some ⟨w.heap.size + 1, 0, none⟩), .pointer (some ⟨w.heap.size + 1 + 1, 0, none⟩), .pointer (some ⟨w.heap.size + 1 + 1 + 1, 0, none⟩),
      .int .i64 (x.1 : Int), .pointer (some ⟨Bx, 0, none⟩), undef, undef, .slice a ds.length ca, .int .i64 ds.length, .slice b ds.length cb, .int .i64 ds.length, .bool false, .slice a ds.length ca, .func (.func 25) #[] #[.pointer (some ⟨w.heap.size + 1 + 1 + 1 + 1, 0, none⟩)], .int .i64 (x.1 : Int), .agg #[.int .i64 (svOf ds x.1), .int .i64 (dvOf ds x.1)],
      undef, undef, undef, undef, undef, undef, undef, undef, undef, undef, undef, undef, undef, undef], defers := [] })
    (fun x a' _ X Y row hs hg hr => by obtain ⟨Bx, h1, h2, h3⟩ := hs; exact ⟨Bx, h1, partAt_own Bx _ _ () X Y row h2 hg (fun r e => (hr r e).2), h3⟩)
    ?assign ?body ?done ?stop
  case assign =>
    rintro l pre x W K ⟨⟨⟨⟨bW1, bL1⟩, bR1⟩, bE1⟩, hB1⟩ hK
    have hsW := hB1.size
    gi_wp2
    exact hK _ _ ((KeepsOthers.alloc _ _).from _) (Kp2.alloc W (by omega) _) ⟨⟨⟨⟨bW1.alloc _, bL1.alloc _⟩, bR1.alloc _⟩, bE1.alloc _⟩, hB1.alloc (by omega) _⟩ ⟨W.heap.size, by omega, ⟨by simp, by simp, by simp⟩, rfl⟩
  case body =>
    rintro l pre x a' W hl ⟨r, hr⟩ ⟨⟨⟨⟨bW1, bL1⟩, bR1⟩, bE1⟩, hB1⟩ ⟨Bx, hBx, bX, rfl⟩ hlt
    have hsW := hB1.size
    rcases (hb.below (hB0.trans hB1)) with ⟨h00, _⟩ | ⟨bb, off, cap, hbe, hbb, hbc⟩
    · exact absurd x.2 (by omega)
    · injection hbe with hb1 hb2 hb3
      subst hb1
      have hcx := hbc x.1 x.2
      have hxl := x.2
      gi_wp2
      refine region_round (fun y => Below W.heap.size W y) (by kernel_rfl) (by kernel_rfl) (fun ⟨_, _, h⟩ => h) ((Below.refl _ W).drew) (fun hS => ?_)
      refine wpAnyH_take (i := 0) (v := ?_) rfl (by kernel_rfl) (by kernel_rfl) (by kernel_rfl) (fun _ _ _ h => h) (Or.inl ⟨by rfl, ?_⟩) hS ?_
      rotate_left
      · (intro y hy; have c0 := (hy.cell (p := ⟨w.heap.size + 1 + 1 + 1, 0, none⟩) bW1.lt).trans bW1.cell; have c1 := (hy.cell (p := ⟨Bx, 0, none⟩) bX.2.2).trans bX.1; have c2 := (hy.cell (p := ⟨Bx, 1, none⟩) bX.2.2).trans bX.2.1; have c3 := (hy.cell (p := ⟨w.heap.size, 0, none⟩) bL1.lt).trans bL1.cell; have c4 := (hy.cell (p := ⟨bb, off + x.1, none⟩) (by show bb < _; omega)).trans hcx; go_simp; try with_reducible rfl)
      try simp only [Act.put, List.setIfInBounds_toArray, List.set_cons_zero, List.set_cons_succ]
      refine wpAnyH_take (i := 1) (v := ?_) rfl (by kernel_rfl) (by kernel_rfl) (by kernel_rfl) (fun _ _ _ h => h) (Or.inl ⟨by rfl, ?_⟩) hS ?_
      rotate_left
      · (intro y hy; have c0 := (hy.cell (p := ⟨w.heap.size + 1 + 1 + 1, 0, none⟩) bW1.lt).trans bW1.cell; have c1 := (hy.cell (p := ⟨Bx, 0, none⟩) bX.2.2).trans bX.1; have c2 := (hy.cell (p := ⟨Bx, 1, none⟩) bX.2.2).trans bX.2.1; have c3 := (hy.cell (p := ⟨w.heap.size, 0, none⟩) bL1.lt).trans bL1.cell; have c4 := (hy.cell (p := ⟨bb, off + x.1, none⟩) (by show bb < _; omega)).trans hcx; go_simp; try with_reducible rfl)
      try simp only [Act.put, List.setIfInBounds_toArray, List.set_cons_zero, List.set_cons_succ]
      refine wpAnyH_take (i := 2) (v := ?_) rfl (by kernel_rfl) (by kernel_rfl) (by kernel_rfl) (fun _ _ _ h => h) (Or.inl ⟨by rfl, ?_⟩) hS ?_
      rotate_left
      · (intro y hy; have c0 := (hy.cell (p := ⟨w.heap.size + 1 + 1 + 1, 0, none⟩) bW1.lt).trans bW1.cell; have c1 := (hy.cell (p := ⟨Bx, 0, none⟩) bX.2.2).trans bX.1; have c2 := (hy.cell (p := ⟨Bx, 1, none⟩) bX.2.2).trans bX.2.1; have c3 := (hy.cell (p := ⟨w.heap.size, 0, none⟩) bL1.lt).trans bL1.cell; have c4 := (hy.cell (p := ⟨bb, off + x.1, none⟩) (by show bb < _; omega)).trans hcx; go_simp; try with_reducible rfl)
      try simp only [Act.put, List.setIfInBounds_toArray, List.set_cons_zero, List.set_cons_succ]
      refine wpAnyH_take (i := 3) (v := ?_) rfl (by kernel_rfl) (by kernel_rfl) (by kernel_rfl) (fun _ _ _ h => h) (Or.inl ⟨by rfl, ?_⟩) hS ?_
      rotate_left
      · (intro y hy; have c0 := (hy.cell (p := ⟨w.heap.size + 1 + 1 + 1, 0, none⟩) bW1.lt).trans bW1.cell; have c1 := (hy.cell (p := ⟨Bx, 0, none⟩) bX.2.2).trans bX.1; have c2 := (hy.cell (p := ⟨Bx, 1, none⟩) bX.2.2).trans bX.2.1; have c3 := (hy.cell (p := ⟨w.heap.size, 0, none⟩) bL1.lt).trans bL1.cell; have c4 := (hy.cell (p := ⟨bb, off + x.1, none⟩) (by show bb < _; omega)).trans hcx; go_simp; try with_reducible rfl)
      try simp only [Act.put, List.setIfInBounds_toArray, List.set_cons_zero, List.set_cons_succ]
      refine wpAnyH_take (i := 4) (v := ?_) rfl (by kernel_rfl) (by kernel_rfl) (by kernel_rfl) (fun _ _ _ h => h) (Or.inl ⟨by rfl, ?_⟩) hS ?_
      rotate_left
      · (intro y hy; have c0 := (hy.cell (p := ⟨w.heap.size + 1 + 1 + 1, 0, none⟩) bW1.lt).trans bW1.cell; have c1 := (hy.cell (p := ⟨Bx, 0, none⟩) bX.2.2).trans bX.1; have c2 := (hy.cell (p := ⟨Bx, 1, none⟩) bX.2.2).trans bX.2.1; have c3 := (hy.cell (p := ⟨w.heap.size, 0, none⟩) bL1.lt).trans bL1.cell; have c4 := (hy.cell (p := ⟨bb, off + x.1, none⟩) (by show bb < _; omega)).trans hcx; go_simp; try with_reducible rfl)
      try simp only [Act.put, List.setIfInBounds_toArray, List.set_cons_zero, List.set_cons_succ]
      refine wpAnyH_take (i := 5) (v := ?_) rfl (by kernel_rfl) (by kernel_rfl) (by kernel_rfl) (fun _ _ _ h => h) (Or.inl ⟨by rfl, ?_⟩) hS ?_
      rotate_left
      · (intro y hy; have c0 := (hy.cell (p := ⟨w.heap.size + 1 + 1 + 1, 0, none⟩) bW1.lt).trans bW1.cell; have c1 := (hy.cell (p := ⟨Bx, 0, none⟩) bX.2.2).trans bX.1; have c2 := (hy.cell (p := ⟨Bx, 1, none⟩) bX.2.2).trans bX.2.1; have c3 := (hy.cell (p := ⟨w.heap.size, 0, none⟩) bL1.lt).trans bL1.cell; have c4 := (hy.cell (p := ⟨bb, off + x.1, none⟩) (by show bb < _; omega)).trans hcx; go_simp; try with_reducible rfl)
      try simp only [Act.put, List.setIfInBounds_toArray, List.set_cons_zero, List.set_cons_succ]
      refine wpAnyH_ready (rs := [6]) (by kernel_rfl) (by simp) ?_
      refine AllReadyH.cons (o := _) rfl (fun K hK => ?_) AllReadyH.nil
      go_simp
      obtain ⟨q1, q2, q3⟩ := svOf_right ds hs h1 x.1 x.2
      refine (set_yes _ _ _ _ _ (accOf_bounds ds vs hs hv pre).1 (accOf_bounds ds vs hs hv pre).2 q1 q2 q3 (by unfold dvOf; omega) (dv_fits ds vs hv x.1)).mono ?_
      rintro e w2 ⟨rfl, hb2⟩
      refine hK.out _ _ (hS.trans (hb2.mono (by simp))) (fun hS => ?_)
      clear hK K
      try simp only [Act.put, List.setIfInBounds_toArray, List.set_cons_zero, List.set_cons_succ]
      refine wpAnyH_take (i := 7) (v := ?_) rfl (by kernel_rfl) (by kernel_rfl) (by kernel_rfl) (fun _ _ _ h => h) (Or.inl ⟨by rfl, ?_⟩) hS ?_
      rotate_left
      · (intro y hy; go_simp; try with_reducible rfl)
      try simp only [Act.put, List.setIfInBounds_toArray, List.set_cons_zero, List.set_cons_succ]
      refine wpAnyH_take (i := 8) (v := ?_) rfl (by kernel_rfl) (by kernel_rfl) (by kernel_rfl) (fun _ _ _ h => h) (Or.inl ⟨by rfl, ?_⟩) hS ?_
      rotate_left
      · (intro y hy; go_simp; try with_reducible rfl)
      try simp only [Act.put, List.setIfInBounds_toArray, List.set_cons_zero, List.set_cons_succ]
      refine wpAnyH_take (i := 9) (v := ?_) rfl (by kernel_rfl) (by kernel_rfl) (by kernel_rfl) (fun _ _ _ h => h) (Or.inl ⟨by rfl, ?_⟩) hS ?_
      rotate_left
      · (intro y hy; go_simp; try with_reducible rfl)
      try simp only [Act.put, List.setIfInBounds_toArray, List.set_cons_zero, List.set_cons_succ]
      refine wpAnyH_take (i := 10) (v := ?_) rfl (by kernel_rfl) (by kernel_rfl) (by kernel_rfl) (fun _ _ _ h => h) (Or.inl ⟨by rfl, ?_⟩) hS ?_
      rotate_left
      · (intro y hy; go_simp; try with_reducible rfl)
      try simp only [Act.put, List.setIfInBounds_toArray, List.set_cons_zero, List.set_cons_succ]
      refine wpAnyH_take (i := 11) (v := ?_) rfl (by kernel_rfl) (by kernel_rfl) (by kernel_rfl) (fun _ _ _ h => h) (Or.inl ⟨by rfl, ?_⟩) hS ?_
      rotate_left
      · (intro y hy; go_simp; try with_reducible rfl)
      try simp only [Act.put, List.setIfInBounds_toArray, List.set_cons_zero, List.set_cons_succ]
      refine wpAnyH_done (by kernel_rfl) ?_ _
      have bW2 := bW1.kept (row := none) ⟨hS.os, hS.tape, hS.output, hS.size, fun i hi _ => hS.block i hi⟩ (by simp)
      have bL2 := bL1.kept (row := none) ⟨hS.os, hS.tape, hS.output, hS.size, fun i hi _ => hS.block i hi⟩ (by simp)
      have bR2 := bR1.kept (row := none) ⟨hS.os, hS.tape, hS.output, hS.size, fun i hi _ => hS.block i hi⟩ (by simp)
      have bE2 := bE1.kept (row := none) ⟨hS.os, hS.tape, hS.output, hS.size, fun i hi _ => hS.block i hi⟩ (by simp)
      have cW := bW2.cell
      have fW := bW2.frozen
      clear hbc
      gi_wp2
      rw [accOf_snoc]
      have hg : W.grownBy w2 none := ⟨hS.os, hS.tape, hS.output, hS.size, fun i hi _ => hS.block i hi⟩
      exact ⟨(KeepsFrom.of_grownBy hg (fun j e => by cases e)).trans ((KeepsOthers.setCell _ _ _).from _), (Kp2.of_below (by omega) hS).trans (Kp2.setCell _ (by simp; omega) (by simp) _),
        ⟨⟨⟨bW2.set _, bL2.other (by omega) _⟩, bR2.other (by omega) _⟩, bE2.other (by omega) _⟩, hB1.trans ((hS.mono (by omega)).setCell (by simp; omega) _)⟩
  case done =>
    rintro D xs W hD hxs ⟨⟨⟨⟨bW1, bL1⟩, bR1⟩, bE1⟩, hB1⟩ hK
    have hsW := hB1.size
    have cW := bW1.cell
    have cR := bR1.cell
    have cE := bE1.cell
    have fR := bR1.frozen
    have fE := bE1.frozen
    gi_wp2
    have bR2 := (bR1.set (.int .u64 (accOf ds vs xs))).other (B' := w.heap.size + 1 + 1) (by omega) (.bool true)
    have bE2 := (bE1.other (B' := w.heap.size + 1) (by omega) (.int .u64 (accOf ds vs xs))).set (.bool true)
    have hK2 := ((KeepsOthers.setCell W ⟨w.heap.size + 1, 0, none⟩ (.int .u64 (accOf ds vs xs))).trans (KeepsOthers.setCell _ ⟨w.heap.size + 1 + 1, 0, none⟩ (.bool true))).same D _ hK rfl
    have hB2 : Below w.heap.size w ((W.setCell ⟨w.heap.size + 1, 0, none⟩ (.int .u64 (accOf ds vs xs))).setCell ⟨w.heap.size + 1 + 1, 0, none⟩ (.bool true)) := (hB0.trans hB1).setCell (by simp) _ |>.setCell (by simp; omega) _
    obtain ⟨W2, hW2⟩ : ∃ W2, (W.setCell ⟨w.heap.size + 1, 0, none⟩ (.int .u64 (accOf ds vs xs))).setCell ⟨w.heap.size + 1 + 1, 0, none⟩ (.bool true) = W2 := ⟨_, rfl⟩
    rw [hW2] at bR2 bE2 hK2 hB2 ⊢
    clear hW2
    refine ⟨by simp, .inl ⟨_, _, rfl, run_takeDeferred hK2, ?_⟩⟩
    have cR3 := (bR2.kept (grownBy_putObj' W2 D (.deferred none)) (fun e => by injection e; omega)).cell
    have cE3 := (bE2.kept (grownBy_putObj' W2 D (.deferred none)) (fun e => by injection e; omega)).cell
    have hacc : accOf ds vs xs = ((Wd.acc ds vs (List.range ds.length) : Nat) : Int) := by unfold accOf; rw [hxs]
    rw [hacc] at cR3
    refine ⟨_, ?_, rfl, hB2.trans (belowK_b (w := w) (Nat.le_refl _) W2 D _ _ (by omega) hK2 rfl rfl)⟩
    simp [results, Try.f16, go_sem, cR3, cE3]
  case stop =>
    rintro D c pre W _ _ h _
    exact h.elim

end Go.Proofs.Ytadncljhckakmaa
