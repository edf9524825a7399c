/- Put together: Package heap: Moved. Condition: the heap is sound; what is to go has room. Package heap: Moved, at a heap that is right; what it leaves is right. Condition: the heap is right, and the pointer may be. Package mover: SetStrong with as many pointers as there are. Condition: there is an object; each may be a pointer. Some pointers moved one behind the other, plainly. No condition. A heap stays right when words of its objects are set. Plain; no condition. A heap is right at first; it stays so when an object is laid, and when it flips. Plain; no condition. Package heap: now, split. Condition: the heap is right; each place may be asked for. Package heap: loosen. Condition: the heap is right; all weak ones on the list are here. Package heap: Drop. Condition: the heap is right. A heap stays right when it flips, when the next object is scanned, and when the old space is let go of. Plain; no condition. Package heap: what asks first whether an object is here: Shape, Serial, Second, SetFreed, SetSecond, Ptr, SetPtr, Num, SetNum. Condition: the heap is sound. -/
import Derived.Test.YtoohnnkhklifdaaBase2
namespace Go.Proofs.Ytoohnnkhklifdaa
open Go.ChangeShapes Go.WideShapes Go.ChangeAt Go.RowKit

set_option linter.unusedSimpArgs false
set_option linter.unusedVariables false

section
variable {w : World} {H P b : Nat} {v0 v1 v2 v3 : Value} {s : Hp} {K : Nat → Prop}
/-- The cells of the space in use. -/
theorem HeapIn.inuse (h : HeapIn w H P b v0 v1 v2 v3 s) (hu : s.u = 0 ∨ s.u = 1) :
    (s.u = 0 ∧ w.cell? ⟨H, 9, none⟩ = some (.int .i64 0) ∧ w.cell? ⟨H, 1, none⟩ = some (.int .i64 s.bn) ∧ w.cell? ⟨H, 2, none⟩ = some (.int .i64 s.z) ∧ w.cell? ⟨H, 3, none⟩ = some (.int .i64 s.tn)) ∨
    (s.u = 1 ∧ w.cell? ⟨H, 9, none⟩ = some (.int .i64 1) ∧ w.cell? ⟨H, 4, none⟩ = some (.int .i64 s.bn) ∧ w.cell? ⟨H, 5, none⟩ = some (.int .i64 s.z) ∧ w.cell? ⟨H, 6, none⟩ = some (.int .i64 s.tn)) := by
  have c9 : w.cell? ⟨H, 9, none⟩ = some (.int .i64 s.u) := h.blk.cell 9
  rcases hu with hu | hu
  · refine .inl ⟨hu, by rw [c9, hu]; rfl, ?_, h.blk.cell 2, ?_⟩
    · rw [show s.bn = s.base 0 from by unfold Hp.bn; rw [hu]]; exact h.blk.cell 1
    · rw [show s.tn = s.top 0 from by unfold Hp.top; rw [hu]; rfl]; exact h.blk.cell 3
  · refine .inr ⟨hu, by rw [c9, hu]; rfl, ?_, h.blk.cell 5, ?_⟩
    · rw [show s.bn = s.base 1 from by unfold Hp.bn; rw [hu]]; exact h.blk.cell 4
    · rw [show s.tn = s.top 1 from by unfold Hp.top; rw [hu]; rfl]; exact h.blk.cell 6

theorem Went.after {x y : World} {S : Nat → Prop} (hc : Chg S w x) (hS : ∀ k, S k → K k) (h : Went x K H s y) : Went w K H s y := by
  obtain ⟨K1, h1, h2, h3⟩ := h
  exact ⟨K1, h1, fun k hk => (h2 k hk).imp id fun e => Nat.le_trans hc.size e, (hc.mono hS).trans h3⟩
/-- What is not there stays. -/
theorem moved_no (h : HeapIn w H P b v0 v1 v2 v3 s) (g : Sound s) (p : Nat) (hp : p ∉ s.pk) :
    Calls Try.prog 11 #[.pointer (some ⟨H, 0, none⟩), .int .i64 p] w fun e w' => e = .returned (.int .i64 p) ∧ Below w.heap.size w w' := by
  have M1 := old_any h g.u01
  obtain ⟨k, hk⟩ : ∃ k, 1 - s.u = k := ⟨_, rfl⟩
  have hkk := g.pl_k
  rw [hk] at M1 hkk
  have M2 := fun x (hx : Below w.heap.size w x) => has_at (h.on hx) k p (by have := g.u01; omega) (by rw [hkk]; exact g.rk) (by rw [hkk]; have := g.lk; omega)
  have hno : decide ((p : Int) ∈ nums (s.pl k)) = false := decide_eq_false (by rw [hkk, mem_nums]; exact hp)
  rw [hno] at M2
  clear h g hkk hno hk
  go_enter Try.func11, Try.ntmps11
  go_wp2_with fail
  refine M1.mono ?_
  rintro e x ⟨rfl, hb⟩
  go_wp2_with fail
  refine (M2 _ hb).mono ?_
  rintro e y ⟨rfl, hb2⟩
  go_wp2
  go_ret
  exact ⟨rfl, hb.trans (hb2.mono hb.size)⟩

/-- The cells that Copy's call reads: the heap's arena, the space's box. -/
abbrev MvS (H P q bn z tn : Nat) (y : World) : Prop := y.cell? ⟨H, 0, none⟩ = some (.pointer (some ⟨P, 0, none⟩)) ∧ y.cell? ⟨q, 0, none⟩ = some (.int .i64 bn) ∧ y.cell? ⟨q, 1, none⟩ = some (.int .i64 z) ∧ y.cell? ⟨q, 2, none⟩ = some (.int .i64 tn)
theorem MvS.of {cs : Array Value} {q bn z tn : Nat} {y : World} (h : BlkIs y H (.mk (.pointer (some ⟨P, 0, none⟩) :: cs.toList)) 53) (g : BlkIs y q #[.int .i64 bn, .int .i64 z, .int .i64 tn] 47) : MvS H P q bn z tn y :=
  ⟨h.cell 0, g.cell 0, g.cell 1, g.cell 2⟩

set_option maxRecDepth 100000 in
set_option maxHeartbeats 4000000 in
theorem moved_yes (h : HeapIn w H P b v0 v1 v2 v3 s) (hF : ∀ k, Foot H P b v0 v1 v2 v3 k → K k) (g : Sound s) (p n tn' : Nat) (l' : List Int) (hp : p ∈ s.pk) (hl' : l'.length = s.l.length) (hr : s.tn ≤ tn' ∧ tn' - s.tn ≤ s.ow)
    (M3 : ∀ x, ArenaAt 76 x P b s.l → Calls Try.prog 27 #[.pointer (some ⟨P, 0, none⟩), .int .i64 p, spV s.bn s.z s.tn] x fun e x' => e = .returned (.tuple #[spV s.bn s.z tn', .int .i64 n, .int .i64 0]) ∧ ArenaAt 76 x' P b l' ∧ Chg (· = b) x x') :
    Calls Try.prog 11 #[.pointer (some ⟨H, 0, none⟩), .int .i64 p] w fun e w' => e = .returned (.int .i64 n) ∧ Went w K H (if tn' = s.tn then { s with l := l' } else { s with l := l', ow := s.ow - (tn' - s.tn), pn := s.pn ++ [n], tn := tn' }) w' := by
  have M1 := old_any h g.u01
  obtain ⟨k, hk⟩ : ∃ k, 1 - s.u = k := ⟨_, rfl⟩
  have hkk := g.pl_k
  rw [hk] at M1 hkk
  have M2 := fun x (hx : Below w.heap.size w x) => has_at (h.on hx) k p (by have := g.u01; omega) (by rw [hkk]; exact g.rk) (by rw [hkk]; have := g.lk; omega)
  have hno : decide ((p : Int) ∈ nums (s.pl k)) = true := decide_eq_true (by rw [hkk, mem_nums]; exact hp)
  rw [hno] at M2
  clear hkk hno hk
  obtain ⟨s', hs'⟩ : ∃ s', (if tn' = s.tn then { s with l := l' } else { s with l := l', ow := s.ow - (tn' - s.tn), pn := s.pn ++ [n], tn := tn' }) = s' := ⟨_, rfl⟩
  rw [hs']
  have Hs := Lib.hid hs'
  clear hs'
  go_enter Try.func11, Try.ntmps11
  go_wp2_with fail
  refine M1.mono ?_
  rintro e x ⟨rfl, hb⟩
  go_wp2_with fail
  refine (M2 _ hb).mono ?_
  rintro e y ⟨rfl, hb2⟩
  replace hb2 := hb.trans (hb2.mono hb.size)
  clear hb M1 M2 x
  have hy := h.on hb2
  have hcw : Chg (fun k => k = H ∨ k = b) w y := Chg.of_below hb2 (Nat.le_refl _)
  clear hb2 h
  have hl2 := hy.blk.lt
  have c0 : y.cell? ⟨H, 0, none⟩ = some (.pointer (some ⟨P, 0, none⟩)) := hy.blk.cell 0
  go_upto_region 3 with fail
  go_cut [5] from 16 to 56 (fun s5 wx => ∃ q : Nat, s5 = .pointer (some ⟨q, 0, none⟩) ∧ BlkIs wx q #[.int .i64 s.bn, .int .i64 s.z, .int .i64 s.tn] 47 ∧ HeapIn wx H P b v0 v1 v2 v3 s ∧ Chg (fun k => k = H ∨ k = b) w wx)
  case first =>
    have hx : BlkIs ((y.alloc (.cells #[.int .i64 s.bn, .int .i64 s.z, .int .i64 s.tn] 47)).drew) y.heap.size _ _ := BlkIs.new y #[.int .i64 s.bn, .int .i64 s.z, .int .i64 s.tn] 47
    have hhx : HeapIn ((y.alloc (.cells #[.int .i64 s.bn, .int .i64 s.z, .int .i64 s.tn] 47)).drew) H P b v0 v1 v2 v3 s := hy.on ((Below.refl _ y).alloc (Nat.le_refl _) _).drew
    have hcx : Chg (fun k => k = H ∨ k = b) w ((y.alloc (.cells #[.int .i64 s.bn, .int .i64 s.z, .int .i64 s.tn] 47)).drew) := (hcw.alloc _).drew
    rcases hy.inuse g.u01 with ⟨hu, c9, cB, cZ, cT⟩ | ⟨hu, c9, cB, cZ, cT⟩
    · go_region
      go_wp2_with fail
      go_meet
      exact ⟨_, rfl, hx, hhx, hcx⟩
    · go_region
      go_wp2_with fail
      go_meet
      exact ⟨_, rfl, hx, hhx, hcx⟩
  case rest =>
    obtain ⟨q, rfl, hx, hhx, hcx⟩ := hcut
    clear hy hcw hl2 c0 y
    generalize wc = x at *
    go_upto_region 4 with fail
    go_cut [6, 7, 8] from 25 to 56 (fun s6 s7 s8 wx => ∃ m : Nat, s6 = .pointer (some ⟨m, 0, none⟩) ∧ s7 = .int .i64 n ∧ s8 = .int .i64 0 ∧ BlkIs wx m #[.int .i64 s.bn, .int .i64 s.z, .int .i64 tn'] 47 ∧ BlkIs wx q #[.int .i64 s.bn, .int .i64 s.z, .int .i64 s.tn] 47 ∧ HeapIn wx H P b v0 v1 v2 v3 { s with l := l' } ∧ Chg (fun k => k = H ∨ k = b) w wx)
    case first =>
      refine wp_region_noPanic ?_
      refine wp_region_held_drew (S := MvS H P q s.bn s.z s.tn) (by kernel_rfl) ⟨hhx.blk.cell 0, hx.cell 0, hx.cell 1, hx.cell 2⟩ (fun hS => ?_)
      have hhd : HeapIn x.drew H P b v0 v1 v2 v3 s := hhx.on (Below.refl _ x).drew
      have hxd : BlkIs x.drew q _ _ := hx
      have hcd := hcx.drew
      first
      | (refine wpAnyH_take (i := 0) (v := ?_) rfl (by kernel_rfl) (by kernel_rfl) (by kernel_rfl) (fun _ _ _ h => h) (Or.inl ⟨by rfl, ?_⟩) hS ?_; rotate_left; (· (intro y hy; (try dsimp only at hy); go_simp; try with_reducible rfl)); try simp only [Act.put, List.setIfInBounds_toArray, List.set_cons_zero, List.set_cons_succ, List.getElem_toArray, List.getElem_cons_zero, List.getElem_cons_succ])
      | (refine wpAnyH_take (i := 0) (v := undef) rfl (by kernel_rfl) (by kernel_rfl) (by kernel_rfl) (fun _ _ _ h => h) (Or.inr ⟨by rfl, rfl⟩) hS ?_; try simp only [Act.put, List.setIfInBounds_toArray, List.set_cons_zero, List.set_cons_succ, List.getElem_toArray, List.getElem_cons_zero, List.getElem_cons_succ])
      first
      | (refine wpAnyH_take (i := 1) (v := ?_) rfl (by kernel_rfl) (by kernel_rfl) (by kernel_rfl) (fun _ _ _ h => h) (Or.inl ⟨by rfl, ?_⟩) hS ?_; rotate_left; (· (intro y hy; (try dsimp only at hy); go_simp; try with_reducible rfl)); try simp only [Act.put, List.setIfInBounds_toArray, List.set_cons_zero, List.set_cons_succ, List.getElem_toArray, List.getElem_cons_zero, List.getElem_cons_succ])
      | (refine wpAnyH_take (i := 1) (v := undef) rfl (by kernel_rfl) (by kernel_rfl) (by kernel_rfl) (fun _ _ _ h => h) (Or.inr ⟨by rfl, rfl⟩) hS ?_; try simp only [Act.put, List.setIfInBounds_toArray, List.set_cons_zero, List.set_cons_succ, List.getElem_toArray, List.getElem_cons_zero, List.getElem_cons_succ])
      first
      | (refine wpAnyH_take (i := 2) (v := ?_) rfl (by kernel_rfl) (by kernel_rfl) (by kernel_rfl) (fun _ _ _ h => h) (Or.inl ⟨by rfl, ?_⟩) hS ?_; rotate_left; (· (intro y hy; (try dsimp only at hy); go_simp; try with_reducible rfl)); try simp only [Act.put, List.setIfInBounds_toArray, List.set_cons_zero, List.set_cons_succ, List.getElem_toArray, List.getElem_cons_zero, List.getElem_cons_succ])
      | (refine wpAnyH_take (i := 2) (v := undef) rfl (by kernel_rfl) (by kernel_rfl) (by kernel_rfl) (fun _ _ _ h => h) (Or.inr ⟨by rfl, rfl⟩) hS ?_; try simp only [Act.put, List.setIfInBounds_toArray, List.set_cons_zero, List.set_cons_succ, List.getElem_toArray, List.getElem_cons_zero, List.getElem_cons_succ])
      first
      | (refine wpAnyH_take (i := 3) (v := ?_) rfl (by kernel_rfl) (by kernel_rfl) (by kernel_rfl) (fun _ _ _ h => h) (Or.inl ⟨by rfl, ?_⟩) hS ?_; rotate_left; (· (intro y hy; (try dsimp only at hy); go_simp; try with_reducible rfl)); try simp only [Act.put, List.setIfInBounds_toArray, List.set_cons_zero, List.set_cons_succ, List.getElem_toArray, List.getElem_cons_zero, List.getElem_cons_succ])
      | (refine wpAnyH_take (i := 3) (v := undef) rfl (by kernel_rfl) (by kernel_rfl) (by kernel_rfl) (fun _ _ _ h => h) (Or.inr ⟨by rfl, rfl⟩) hS ?_; try simp only [Act.put, List.setIfInBounds_toArray, List.set_cons_zero, List.set_cons_succ, List.getElem_toArray, List.getElem_cons_zero, List.getElem_cons_succ])
      first
      | (refine wpAnyH_take (i := 4) (v := ?_) rfl (by kernel_rfl) (by kernel_rfl) (by kernel_rfl) (fun _ _ _ h => h) (Or.inl ⟨by rfl, ?_⟩) hS ?_; rotate_left; (· (intro y hy; (try dsimp only at hy); go_simp; try with_reducible rfl)); try simp only [Act.put, List.setIfInBounds_toArray, List.set_cons_zero, List.set_cons_succ, List.getElem_toArray, List.getElem_cons_zero, List.getElem_cons_succ])
      | (refine wpAnyH_take (i := 4) (v := undef) rfl (by kernel_rfl) (by kernel_rfl) (by kernel_rfl) (fun _ _ _ h => h) (Or.inr ⟨by rfl, rfl⟩) hS ?_; try simp only [Act.put, List.setIfInBounds_toArray, List.set_cons_zero, List.set_cons_succ, List.getElem_toArray, List.getElem_cons_zero, List.getElem_cons_succ])
      first
      | (refine wpAnyH_take (i := 5) (v := ?_) rfl (by kernel_rfl) (by kernel_rfl) (by kernel_rfl) (fun _ _ _ h => h) (Or.inl ⟨by rfl, ?_⟩) hS ?_; rotate_left; (· (intro y hy; (try dsimp only at hy); go_simp; try with_reducible rfl)); try simp only [Act.put, List.setIfInBounds_toArray, List.set_cons_zero, List.set_cons_succ, List.getElem_toArray, List.getElem_cons_zero, List.getElem_cons_succ])
      | (refine wpAnyH_take (i := 5) (v := undef) rfl (by kernel_rfl) (by kernel_rfl) (by kernel_rfl) (fun _ _ _ h => h) (Or.inr ⟨by rfl, rfl⟩) hS ?_; try simp only [Act.put, List.setIfInBounds_toArray, List.set_cons_zero, List.set_cons_succ, List.getElem_toArray, List.getElem_cons_zero, List.getElem_cons_succ])
      refine wpAnyH_ready (rs := [6, 11]) (by kernel_rfl) (by simp) ?_
      refine AllReadyH.cons (o := _) rfl (fun K hK => ?_) (AllReadyH.cons (o := _) rfl (fun K hK => ?_) AllReadyH.nil)
      · go_simp
        refine (M3 _ hhd.ar).mono ?_
        rintro e v ⟨rfl, hA, hc⟩
        have hv := hhd.put hA hc
        have hxv := hxd.chg hc (ne_of_types hxd hhd.ar.row (by decide))
        have hcv := hcd.trans (hc.mono fun k e => .inr e)
        refine hK.out _ _ (⟨hv.blk.cell 0, hxv.cell 0, hxv.cell 1, hxv.cell 2⟩) (fun hS => ?_)
        clear hK K
        try simp only [Act.put, List.setIfInBounds_toArray, List.set_cons_zero, List.set_cons_succ]
        first
        | (refine wpAnyH_take (i := 7) (v := ?_) rfl (by kernel_rfl) (by kernel_rfl) (by kernel_rfl) (fun _ _ _ h => h) (Or.inl ⟨by rfl, ?_⟩) hS ?_; rotate_left; (· (intro y hy; (try dsimp only at hy); go_simp; try with_reducible rfl)); try simp only [Act.put, List.setIfInBounds_toArray, List.set_cons_zero, List.set_cons_succ, List.getElem_toArray, List.getElem_cons_zero, List.getElem_cons_succ])
        | (refine wpAnyH_take (i := 7) (v := undef) rfl (by kernel_rfl) (by kernel_rfl) (by kernel_rfl) (fun _ _ _ h => h) (Or.inr ⟨by rfl, rfl⟩) hS ?_; try simp only [Act.put, List.setIfInBounds_toArray, List.set_cons_zero, List.set_cons_succ, List.getElem_toArray, List.getElem_cons_zero, List.getElem_cons_succ])
        first
        | (refine wpAnyH_take (i := 8) (v := ?_) rfl (by kernel_rfl) (by kernel_rfl) (by kernel_rfl) (fun _ _ _ h => h) (Or.inl ⟨by rfl, ?_⟩) hS ?_; rotate_left; (· (intro y hy; (try dsimp only at hy); go_simp; try with_reducible rfl)); try simp only [Act.put, List.setIfInBounds_toArray, List.set_cons_zero, List.set_cons_succ, List.getElem_toArray, List.getElem_cons_zero, List.getElem_cons_succ])
        | (refine wpAnyH_take (i := 8) (v := undef) rfl (by kernel_rfl) (by kernel_rfl) (by kernel_rfl) (fun _ _ _ h => h) (Or.inr ⟨by rfl, rfl⟩) hS ?_; try simp only [Act.put, List.setIfInBounds_toArray, List.set_cons_zero, List.set_cons_succ, List.getElem_toArray, List.getElem_cons_zero, List.getElem_cons_succ])
        first
        | (refine wpAnyH_take (i := 9) (v := ?_) rfl (by kernel_rfl) (by kernel_rfl) (by kernel_rfl) (fun _ _ _ h => h) (Or.inl ⟨by rfl, ?_⟩) hS ?_; rotate_left; (· (intro y hy; (try dsimp only at hy); go_simp; try with_reducible rfl)); try simp only [Act.put, List.setIfInBounds_toArray, List.set_cons_zero, List.set_cons_succ, List.getElem_toArray, List.getElem_cons_zero, List.getElem_cons_succ])
        | (refine wpAnyH_take (i := 9) (v := undef) rfl (by kernel_rfl) (by kernel_rfl) (by kernel_rfl) (fun _ _ _ h => h) (Or.inr ⟨by rfl, rfl⟩) hS ?_; try simp only [Act.put, List.setIfInBounds_toArray, List.set_cons_zero, List.set_cons_succ, List.getElem_toArray, List.getElem_cons_zero, List.getElem_cons_succ])
        first
        | (refine wpAnyH_take (i := 10) (v := ?_) rfl (by kernel_rfl) (by kernel_rfl) (by kernel_rfl) (fun _ _ _ h => h) (Or.inl ⟨by rfl, ?_⟩) hS ?_; rotate_left; (· (intro y hy; (try dsimp only at hy); go_simp; try with_reducible rfl)); try simp only [Act.put, List.setIfInBounds_toArray, List.set_cons_zero, List.set_cons_succ, List.getElem_toArray, List.getElem_cons_zero, List.getElem_cons_succ])
        | (refine wpAnyH_take (i := 10) (v := undef) rfl (by kernel_rfl) (by kernel_rfl) (by kernel_rfl) (fun _ _ _ h => h) (Or.inr ⟨by rfl, rfl⟩) hS ?_; try simp only [Act.put, List.setIfInBounds_toArray, List.set_cons_zero, List.set_cons_succ, List.getElem_toArray, List.getElem_cons_zero, List.getElem_cons_succ])
        refine wpAnyH_ready (rs := [11]) (by kernel_rfl) (by simp) ?_
        refine AllReadyH.cons (o := _) rfl (fun K hK => ?_) AllReadyH.nil
        go_simp
        have hv2 := hv.on ((Below.refl _ v).alloc (Nat.le_refl _) (.cells #[.int .i64 0, .int .i64 0, .int .i64 0] 47))
        have hxv2 := hxv.alloc (.cells #[.int .i64 0, .int .i64 0, .int .i64 0] 47)
        refine hK.out _ _ (⟨hv2.blk.cell 0, hxv2.cell 0, hxv2.cell 1, hxv2.cell 2⟩) (fun hS => ?_)
        clear hK K
        try simp only [Act.put, List.setIfInBounds_toArray, List.set_cons_zero, List.set_cons_succ]
        refine wpAnyH_ready (rs := [12]) (by kernel_rfl) (by simp) ?_
        refine AllReadyH.cons (o := _) rfl (fun K hK => ?_) AllReadyH.nil
        go_simp
        have hv3 := hv.on ((Below.refl _ v).alloc (Nat.le_refl _) (.cells #[.int .i64 s.bn, .int .i64 s.z, .int .i64 tn'] 47))
        have hxv3 := hxv.alloc (.cells #[.int .i64 s.bn, .int .i64 s.z, .int .i64 tn'] 47)
        have hm3 := BlkIs.new v #[.int .i64 s.bn, .int .i64 s.z, .int .i64 tn'] 47
        have hcv3 := hcv.alloc (.cells #[.int .i64 s.bn, .int .i64 s.z, .int .i64 tn'] 47)
        refine hK.out _ _ (⟨hv3.blk.cell 0, hxv3.cell 0, hxv3.cell 1, hxv3.cell 2⟩) (fun hS => ?_)
        clear hK K
        try simp only [Act.put, List.setIfInBounds_toArray, List.set_cons_zero, List.set_cons_succ]
        first
        | (refine wpAnyH_take (i := 13) (v := ?_) rfl (by kernel_rfl) (by kernel_rfl) (by kernel_rfl) (fun _ _ _ h => h) (Or.inl ⟨by rfl, ?_⟩) hS ?_; rotate_left; (· (intro y hy; (try dsimp only at hy); go_simp; try with_reducible rfl)); try simp only [Act.put, List.setIfInBounds_toArray, List.set_cons_zero, List.set_cons_succ, List.getElem_toArray, List.getElem_cons_zero, List.getElem_cons_succ])
        | (refine wpAnyH_take (i := 13) (v := undef) rfl (by kernel_rfl) (by kernel_rfl) (by kernel_rfl) (fun _ _ _ h => h) (Or.inr ⟨by rfl, rfl⟩) hS ?_; try simp only [Act.put, List.setIfInBounds_toArray, List.set_cons_zero, List.set_cons_succ, List.getElem_toArray, List.getElem_cons_zero, List.getElem_cons_succ])
        first
        | (refine wpAnyH_take (i := 14) (v := ?_) rfl (by kernel_rfl) (by kernel_rfl) (by kernel_rfl) (fun _ _ _ h => h) (Or.inl ⟨by rfl, ?_⟩) hS ?_; rotate_left; (· (intro y hy; (try dsimp only at hy); go_simp; try with_reducible rfl)); try simp only [Act.put, List.setIfInBounds_toArray, List.set_cons_zero, List.set_cons_succ, List.getElem_toArray, List.getElem_cons_zero, List.getElem_cons_succ])
        | (refine wpAnyH_take (i := 14) (v := undef) rfl (by kernel_rfl) (by kernel_rfl) (by kernel_rfl) (fun _ _ _ h => h) (Or.inr ⟨by rfl, rfl⟩) hS ?_; try simp only [Act.put, List.setIfInBounds_toArray, List.set_cons_zero, List.set_cons_succ, List.getElem_toArray, List.getElem_cons_zero, List.getElem_cons_succ])
        refine wpAnyH_done (by kernel_rfl) ?_ _
        refine NoPanic.normal ?_
        go_wp2_with fail
        go_meet
        exact ⟨_, rfl, rfl, rfl, hm3, hxv3, hv3, hcv3⟩
      · go_simp
        have hb1 := (Below.refl _ x.drew).alloc (Nat.le_refl _) (.cells #[.int .i64 0, .int .i64 0, .int .i64 0] 47)
        have hh1 := hhd.on hb1
        have hx1 := hxd.alloc (.cells #[.int .i64 0, .int .i64 0, .int .i64 0] 47)
        have hm1 : BlkIs _ x.heap.size _ _ := BlkIs.new x.drew #[.int .i64 0, .int .i64 0, .int .i64 0] 47
        have hc1 := hcd.alloc (.cells #[.int .i64 0, .int .i64 0, .int .i64 0] 47)
        have hmH : x.heap.size ≠ H := fun e => by have := hhx.blk.lt; omega
        have hmb : x.heap.size ≠ b := fun e => by have := hhx.ar.row.lt; omega
        have hmq : x.heap.size ≠ q := fun e => by have := hx.lt; omega
        have hmw : w.heap.size ≤ x.heap.size := hcx.size
        refine hK.out _ _ (⟨hh1.blk.cell 0, hx1.cell 0, hx1.cell 1, hx1.cell 2⟩) (fun hS => ?_)
        clear hK K
        try simp only [Act.put, List.setIfInBounds_toArray, List.set_cons_zero, List.set_cons_succ]
        refine wpAnyH_ready (rs := [6]) (by kernel_rfl) (by simp) ?_
        refine AllReadyH.cons (o := _) rfl (fun K hK => ?_) AllReadyH.nil
        go_simp
        refine (M3 _ hh1.ar).mono ?_
        rintro e v ⟨rfl, hA, hc⟩
        have hv := hh1.put hA hc
        have hxv := hx1.chg hc (ne_of_types hx1 hh1.ar.row (by decide))
        have hmv := hm1.chg hc hmb
        have hcv := hc1.trans (hc.mono fun k e => .inr e)
        refine hK.out _ _ (⟨hv.blk.cell 0, hxv.cell 0, hxv.cell 1, hxv.cell 2⟩) (fun hS => ?_)
        clear hK K
        try simp only [Act.put, List.setIfInBounds_toArray, List.set_cons_zero, List.set_cons_succ]
        first
        | (refine wpAnyH_take (i := 7) (v := ?_) rfl (by kernel_rfl) (by kernel_rfl) (by kernel_rfl) (fun _ _ _ h => h) (Or.inl ⟨by rfl, ?_⟩) hS ?_; rotate_left; (· (intro y hy; (try dsimp only at hy); go_simp; try with_reducible rfl)); try simp only [Act.put, List.setIfInBounds_toArray, List.set_cons_zero, List.set_cons_succ, List.getElem_toArray, List.getElem_cons_zero, List.getElem_cons_succ])
        | (refine wpAnyH_take (i := 7) (v := undef) rfl (by kernel_rfl) (by kernel_rfl) (by kernel_rfl) (fun _ _ _ h => h) (Or.inr ⟨by rfl, rfl⟩) hS ?_; try simp only [Act.put, List.setIfInBounds_toArray, List.set_cons_zero, List.set_cons_succ, List.getElem_toArray, List.getElem_cons_zero, List.getElem_cons_succ])
        first
        | (refine wpAnyH_take (i := 8) (v := ?_) rfl (by kernel_rfl) (by kernel_rfl) (by kernel_rfl) (fun _ _ _ h => h) (Or.inl ⟨by rfl, ?_⟩) hS ?_; rotate_left; (· (intro y hy; (try dsimp only at hy); go_simp; try with_reducible rfl)); try simp only [Act.put, List.setIfInBounds_toArray, List.set_cons_zero, List.set_cons_succ, List.getElem_toArray, List.getElem_cons_zero, List.getElem_cons_succ])
        | (refine wpAnyH_take (i := 8) (v := undef) rfl (by kernel_rfl) (by kernel_rfl) (by kernel_rfl) (fun _ _ _ h => h) (Or.inr ⟨by rfl, rfl⟩) hS ?_; try simp only [Act.put, List.setIfInBounds_toArray, List.set_cons_zero, List.set_cons_succ, List.getElem_toArray, List.getElem_cons_zero, List.getElem_cons_succ])
        first
        | (refine wpAnyH_take (i := 9) (v := ?_) rfl (by kernel_rfl) (by kernel_rfl) (by kernel_rfl) (fun _ _ _ h => h) (Or.inl ⟨by rfl, ?_⟩) hS ?_; rotate_left; (· (intro y hy; (try dsimp only at hy); go_simp; try with_reducible rfl)); try simp only [Act.put, List.setIfInBounds_toArray, List.set_cons_zero, List.set_cons_succ, List.getElem_toArray, List.getElem_cons_zero, List.getElem_cons_succ])
        | (refine wpAnyH_take (i := 9) (v := undef) rfl (by kernel_rfl) (by kernel_rfl) (by kernel_rfl) (fun _ _ _ h => h) (Or.inr ⟨by rfl, rfl⟩) hS ?_; try simp only [Act.put, List.setIfInBounds_toArray, List.set_cons_zero, List.set_cons_succ, List.getElem_toArray, List.getElem_cons_zero, List.getElem_cons_succ])
        first
        | (refine wpAnyH_take (i := 10) (v := ?_) rfl (by kernel_rfl) (by kernel_rfl) (by kernel_rfl) (fun _ _ _ h => h) (Or.inl ⟨by rfl, ?_⟩) hS ?_; rotate_left; (· (intro y hy; (try dsimp only at hy); go_simp; try with_reducible rfl)); try simp only [Act.put, List.setIfInBounds_toArray, List.set_cons_zero, List.set_cons_succ, List.getElem_toArray, List.getElem_cons_zero, List.getElem_cons_succ])
        | (refine wpAnyH_take (i := 10) (v := undef) rfl (by kernel_rfl) (by kernel_rfl) (by kernel_rfl) (fun _ _ _ h => h) (Or.inr ⟨by rfl, rfl⟩) hS ?_; try simp only [Act.put, List.setIfInBounds_toArray, List.set_cons_zero, List.set_cons_succ, List.getElem_toArray, List.getElem_cons_zero, List.getElem_cons_succ])
        obtain ⟨⟨d0, d1, d2⟩, g0, g1, g2⟩ := blk3 hmv
        refine wpAnyH_ready (rs := [12]) (by kernel_rfl) (by simp) ?_
        refine AllReadyH.cons (o := _) rfl (fun K hK => ?_) AllReadyH.nil
        go_simp
        have hcs : Chg (· = x.heap.size) v _ := (((Chg.refl (· = x.heap.size) v).setCell (p := ⟨x.heap.size, 0, none⟩) (.inl rfl) (.int .i64 s.bn)).setCell (p := ⟨x.heap.size, 1, none⟩) (.inl rfl) (.int .i64 s.z)).setCell (p := ⟨x.heap.size, 2, none⟩) (.inl rfl) (.int .i64 tn')
        have hv3 := hv.chg hcs fun k hk e => by subst e; have := hhx.lt (P := P) (b := b) hk; omega
        have hxv3 := hxv.chg hcs fun e => hmq e.symm
        have hm3 : BlkIs _ x.heap.size #[.int .i64 s.bn, .int .i64 s.z, .int .i64 tn'] _ := ((hmv.set 0 (.int .i64 s.bn)).set 1 (.int .i64 s.z)).set 2 (.int .i64 tn')
        have hcv3 := hcv.step hcs fun k e => .inr (by omega)
        refine hK.out _ _ (⟨hv3.blk.cell 0, hxv3.cell 0, hxv3.cell 1, hxv3.cell 2⟩) (fun hS => ?_)
        clear hK K
        try simp only [Act.put, List.setIfInBounds_toArray, List.set_cons_zero, List.set_cons_succ]
        first
        | (refine wpAnyH_take (i := 13) (v := ?_) rfl (by kernel_rfl) (by kernel_rfl) (by kernel_rfl) (fun _ _ _ h => h) (Or.inl ⟨by rfl, ?_⟩) hS ?_; rotate_left; (· (intro y hy; (try dsimp only at hy); go_simp; try with_reducible rfl)); try simp only [Act.put, List.setIfInBounds_toArray, List.set_cons_zero, List.set_cons_succ, List.getElem_toArray, List.getElem_cons_zero, List.getElem_cons_succ])
        | (refine wpAnyH_take (i := 13) (v := undef) rfl (by kernel_rfl) (by kernel_rfl) (by kernel_rfl) (fun _ _ _ h => h) (Or.inr ⟨by rfl, rfl⟩) hS ?_; try simp only [Act.put, List.setIfInBounds_toArray, List.set_cons_zero, List.set_cons_succ, List.getElem_toArray, List.getElem_cons_zero, List.getElem_cons_succ])
        first
        | (refine wpAnyH_take (i := 14) (v := ?_) rfl (by kernel_rfl) (by kernel_rfl) (by kernel_rfl) (fun _ _ _ h => h) (Or.inl ⟨by rfl, ?_⟩) hS ?_; rotate_left; (· (intro y hy; (try dsimp only at hy); go_simp; try with_reducible rfl)); try simp only [Act.put, List.setIfInBounds_toArray, List.set_cons_zero, List.set_cons_succ, List.getElem_toArray, List.getElem_cons_zero, List.getElem_cons_succ])
        | (refine wpAnyH_take (i := 14) (v := undef) rfl (by kernel_rfl) (by kernel_rfl) (by kernel_rfl) (fun _ _ _ h => h) (Or.inr ⟨by rfl, rfl⟩) hS ?_; try simp only [Act.put, List.setIfInBounds_toArray, List.set_cons_zero, List.set_cons_succ, List.getElem_toArray, List.getElem_cons_zero, List.getElem_cons_succ])
        refine wpAnyH_done (by kernel_rfl) ?_ _
        refine NoPanic.normal ?_
        go_wp2_with fail
        go_meet
        exact ⟨_, rfl, rfl, rfl, hm3, hxv3, hv3, hcv3⟩
    case rest =>
      obtain ⟨m, rfl, rfl, rfl, hm, hq3, hhr, hcr⟩ := hcut
      clear hx hhx hcx M3
      obtain ⟨⟨d0, d1, d2⟩, _⟩ := blk3 hm
      obtain ⟨⟨f0, f1, f2⟩, _⟩ := blk3 hq3
      by_cases ht : tn' = s.tn
      · have es : s' = { s with l := l' } := by rw [← Hs.out, if_pos ht]
        subst ht
        go_wp2_with fail
        go_ret
        exact ⟨rfl, es.symm ▸ hhr.wentTo hF hcr⟩
      · have es : s' = { s with l := l', ow := s.ow - (tn' - s.tn), pn := s.pn ++ [n], tn := tn' } := by rw [← Hs.out, if_neg ht]
        have hne : ((tn' : Int) = (s.tn : Int)) = False := by simp; omega
        have g1 := g.t1
        have g0 := g.t0
        have hbn : s.bn ≤ 16385 := by have := g.z1; unfold Hp.bn Hp.base; split <;> omega
        have gz := g.z1
        have U1 := used_ok s.bn s.z tn' ⟨by omega, by omega, by omega, by omega⟩
        have U2 := used_ok s.bn s.z s.tn ⟨by omega, by omega, by omega, by omega⟩
        have i1 : IntKind.i64.wrap (((tn' - s.bn : Nat) : Int) - ((s.tn - s.bn : Nat) : Int)) = ((tn' - s.tn : Nat) : Int) := by rw [IntWalk.i64_in _ (by omega)]; omega
        have i2 : IntKind.i64.wrap ((s.ow : Int) - ((tn' - s.tn : Nat) : Int)) = ((s.ow - (tn' - s.tn) : Nat) : Int) := by rw [IntWalk.i64_in _ (by omega)]; omega
        have cow : wc.cell? ⟨H, 11, none⟩ = some (.int .i64 s.ow) := hhr.blk.cell 11
        go_upto_region 6 with fail
        generalize tn' - s.bn = ua at *
        generalize s.tn - s.bn = ub at *
        refine wp_region_noPanic ?_
        refine wp_region_held_drew (S := fun y => (y.cell? ⟨m, 0, none⟩ = some (.int .i64 s.bn) ∧ y.cell? ⟨m, 1, none⟩ = some (.int .i64 s.z) ∧ y.cell? ⟨m, 2, none⟩ = some (.int .i64 tn')) ∧ (y.cell? ⟨q, 0, none⟩ = some (.int .i64 s.bn) ∧ y.cell? ⟨q, 1, none⟩ = some (.int .i64 s.z) ∧ y.cell? ⟨q, 2, none⟩ = some (.int .i64 s.tn))) (by kernel_rfl) ⟨⟨d0, d1, d2⟩, f0, f1, f2⟩ (fun hS => ?_)
        first
        | (refine wpAnyH_take (i := 0) (v := ?_) rfl (by kernel_rfl) (by kernel_rfl) (by kernel_rfl) (fun _ _ _ h => h) (Or.inl ⟨by rfl, ?_⟩) hS ?_; rotate_left; (· (intro y hy; (try dsimp only at hy); go_simp; try with_reducible rfl)); try simp only [Act.put, List.setIfInBounds_toArray, List.set_cons_zero, List.set_cons_succ, List.getElem_toArray, List.getElem_cons_zero, List.getElem_cons_succ])
        | (refine wpAnyH_take (i := 0) (v := undef) rfl (by kernel_rfl) (by kernel_rfl) (by kernel_rfl) (fun _ _ _ h => h) (Or.inr ⟨by rfl, rfl⟩) hS ?_; try simp only [Act.put, List.setIfInBounds_toArray, List.set_cons_zero, List.set_cons_succ, List.getElem_toArray, List.getElem_cons_zero, List.getElem_cons_succ])
        first
        | (refine wpAnyH_take (i := 1) (v := ?_) rfl (by kernel_rfl) (by kernel_rfl) (by kernel_rfl) (fun _ _ _ h => h) (Or.inl ⟨by rfl, ?_⟩) hS ?_; rotate_left; (· (intro y hy; (try dsimp only at hy); go_simp; try with_reducible rfl)); try simp only [Act.put, List.setIfInBounds_toArray, List.set_cons_zero, List.set_cons_succ, List.getElem_toArray, List.getElem_cons_zero, List.getElem_cons_succ])
        | (refine wpAnyH_take (i := 1) (v := undef) rfl (by kernel_rfl) (by kernel_rfl) (by kernel_rfl) (fun _ _ _ h => h) (Or.inr ⟨by rfl, rfl⟩) hS ?_; try simp only [Act.put, List.setIfInBounds_toArray, List.set_cons_zero, List.set_cons_succ, List.getElem_toArray, List.getElem_cons_zero, List.getElem_cons_succ])
        first
        | (refine wpAnyH_take (i := 2) (v := ?_) rfl (by kernel_rfl) (by kernel_rfl) (by kernel_rfl) (fun _ _ _ h => h) (Or.inl ⟨by rfl, ?_⟩) hS ?_; rotate_left; (· (intro y hy; (try dsimp only at hy); go_simp; try with_reducible rfl)); try simp only [Act.put, List.setIfInBounds_toArray, List.set_cons_zero, List.set_cons_succ, List.getElem_toArray, List.getElem_cons_zero, List.getElem_cons_succ])
        | (refine wpAnyH_take (i := 2) (v := undef) rfl (by kernel_rfl) (by kernel_rfl) (by kernel_rfl) (fun _ _ _ h => h) (Or.inr ⟨by rfl, rfl⟩) hS ?_; try simp only [Act.put, List.setIfInBounds_toArray, List.set_cons_zero, List.set_cons_succ, List.getElem_toArray, List.getElem_cons_zero, List.getElem_cons_succ])
        first
        | (refine wpAnyH_take (i := 4) (v := ?_) rfl (by kernel_rfl) (by kernel_rfl) (by kernel_rfl) (fun _ _ _ h => h) (Or.inl ⟨by rfl, ?_⟩) hS ?_; rotate_left; (· (intro y hy; (try dsimp only at hy); go_simp; try with_reducible rfl)); try simp only [Act.put, List.setIfInBounds_toArray, List.set_cons_zero, List.set_cons_succ, List.getElem_toArray, List.getElem_cons_zero, List.getElem_cons_succ])
        | (refine wpAnyH_take (i := 4) (v := undef) rfl (by kernel_rfl) (by kernel_rfl) (by kernel_rfl) (fun _ _ _ h => h) (Or.inr ⟨by rfl, rfl⟩) hS ?_; try simp only [Act.put, List.setIfInBounds_toArray, List.set_cons_zero, List.set_cons_succ, List.getElem_toArray, List.getElem_cons_zero, List.getElem_cons_succ])
        first
        | (refine wpAnyH_take (i := 6) (v := ?_) rfl (by kernel_rfl) (by kernel_rfl) (by kernel_rfl) (fun _ _ _ h => h) (Or.inl ⟨by rfl, ?_⟩) hS ?_; rotate_left; (· (intro y hy; (try dsimp only at hy); go_simp; try with_reducible rfl)); try simp only [Act.put, List.setIfInBounds_toArray, List.set_cons_zero, List.set_cons_succ, List.getElem_toArray, List.getElem_cons_zero, List.getElem_cons_succ])
        | (refine wpAnyH_take (i := 6) (v := undef) rfl (by kernel_rfl) (by kernel_rfl) (by kernel_rfl) (fun _ _ _ h => h) (Or.inr ⟨by rfl, rfl⟩) hS ?_; try simp only [Act.put, List.setIfInBounds_toArray, List.set_cons_zero, List.set_cons_succ, List.getElem_toArray, List.getElem_cons_zero, List.getElem_cons_succ])
        have hh : HeapIn wc.drew H P b v0 v1 v2 v3 { s with l := l' } := hhr.on (Below.refl _ wc).drew
        have hm1 : BlkIs wc.drew m _ _ := hm
        have hq1 : BlkIs wc.drew q _ _ := hq3
        have hc1 := hcr.drew
        clear hhr hm hq3 hcr cow
        refine wpAnyH_ready (rs := [3, 5]) (by kernel_rfl) (by simp) ?_
        refine AllReadyH.cons (o := _) rfl (fun K hK => ?_) (AllReadyH.cons (o := _) rfl (fun K hK => ?_) AllReadyH.nil)
        · have cow := hh.blk.cell 11
          simp only [hpC] at cow
          go_simp
          clear cow
          refine hK.out _ _ (⟨⟨hm1.cell 0, hm1.cell 1, hm1.cell 2⟩, hq1.cell 0, hq1.cell 1, hq1.cell 2⟩) (fun hS => ?_)
          clear hK K
          try simp only [Act.put, List.setIfInBounds_toArray, List.set_cons_zero, List.set_cons_succ]
          refine wpAnyH_ready (rs := [5]) (by kernel_rfl) (by simp) ?_
          refine AllReadyH.cons (o := _) rfl (fun K hK => ?_) AllReadyH.nil
          go_simp
          refine (U1 _).mono ?_
          rintro e vU1 ⟨rfl, hb⟩
          replace hh := hh.on hb
          replace hm1 := hm1.more hb (Nat.le_refl _)
          replace hq1 := hq1.more hb (Nat.le_refl _)
          replace hc1 := hc1.trans (Chg.of_below hb (Nat.le_refl _))
          clear hb
          refine hK.out _ _ (⟨⟨hm1.cell 0, hm1.cell 1, hm1.cell 2⟩, hq1.cell 0, hq1.cell 1, hq1.cell 2⟩) (fun hS => ?_)
          clear hK K
          try simp only [Act.put, List.setIfInBounds_toArray, List.set_cons_zero, List.set_cons_succ]
          refine wpAnyH_ready (rs := [7]) (by kernel_rfl) (by simp) ?_
          refine AllReadyH.cons (o := _) rfl (fun K hK => ?_) AllReadyH.nil
          go_simp
          refine (U2 _).mono ?_
          rintro e vU2 ⟨rfl, hb⟩
          replace hh := hh.on hb
          replace hm1 := hm1.more hb (Nat.le_refl _)
          replace hq1 := hq1.more hb (Nat.le_refl _)
          replace hc1 := hc1.trans (Chg.of_below hb (Nat.le_refl _))
          clear hb
          refine hK.out _ _ (⟨⟨hm1.cell 0, hm1.cell 1, hm1.cell 2⟩, hq1.cell 0, hq1.cell 1, hq1.cell 2⟩) (fun hS => ?_)
          clear hK K
          try simp only [Act.put, List.setIfInBounds_toArray, List.set_cons_zero, List.set_cons_succ]
          first
          | (refine wpAnyH_take (i := 8) (v := ?_) rfl (by kernel_rfl) (by kernel_rfl) (by kernel_rfl) (fun _ _ _ h => h) (Or.inl ⟨by rfl, ?_⟩) hS ?_; rotate_left; (· (intro y hy; (try dsimp only at hy); go_simp; try with_reducible rfl)); try simp only [Act.put, List.setIfInBounds_toArray, List.set_cons_zero, List.set_cons_succ, List.getElem_toArray, List.getElem_cons_zero, List.getElem_cons_succ])
          | (refine wpAnyH_take (i := 8) (v := undef) rfl (by kernel_rfl) (by kernel_rfl) (by kernel_rfl) (fun _ _ _ h => h) (Or.inr ⟨by rfl, rfl⟩) hS ?_; try simp only [Act.put, List.setIfInBounds_toArray, List.set_cons_zero, List.set_cons_succ, List.getElem_toArray, List.getElem_cons_zero, List.getElem_cons_succ])
          first
          | (refine wpAnyH_take (i := 9) (v := ?_) rfl (by kernel_rfl) (by kernel_rfl) (by kernel_rfl) (fun _ _ _ h => h) (Or.inl ⟨by rfl, ?_⟩) hS ?_; rotate_left; (· (intro y hy; (try dsimp only at hy); go_simp; try with_reducible rfl)); try simp only [Act.put, List.setIfInBounds_toArray, List.set_cons_zero, List.set_cons_succ, List.getElem_toArray, List.getElem_cons_zero, List.getElem_cons_succ])
          | (refine wpAnyH_take (i := 9) (v := undef) rfl (by kernel_rfl) (by kernel_rfl) (by kernel_rfl) (fun _ _ _ h => h) (Or.inr ⟨by rfl, rfl⟩) hS ?_; try simp only [Act.put, List.setIfInBounds_toArray, List.set_cons_zero, List.set_cons_succ, List.getElem_toArray, List.getElem_cons_zero, List.getElem_cons_succ])
          first
          | (refine wpAnyH_take (i := 10) (v := ?_) rfl (by kernel_rfl) (by kernel_rfl) (by kernel_rfl) (fun _ _ _ h => h) (Or.inl ⟨by rfl, ?_⟩) hS ?_; rotate_left; (· (intro y hy; (try dsimp only at hy); go_simp; try with_reducible rfl)); try simp only [Act.put, List.setIfInBounds_toArray, List.set_cons_zero, List.set_cons_succ, List.getElem_toArray, List.getElem_cons_zero, List.getElem_cons_succ])
          | (refine wpAnyH_take (i := 10) (v := undef) rfl (by kernel_rfl) (by kernel_rfl) (by kernel_rfl) (fun _ _ _ h => h) (Or.inr ⟨by rfl, rfl⟩) hS ?_; try simp only [Act.put, List.setIfInBounds_toArray, List.set_cons_zero, List.set_cons_succ, List.getElem_toArray, List.getElem_cons_zero, List.getElem_cons_succ])
          first
          | (refine wpAnyH_take (i := 11) (v := ?_) rfl (by kernel_rfl) (by kernel_rfl) (by kernel_rfl) (fun _ _ _ h => h) (Or.inl ⟨by rfl, ?_⟩) hS ?_; rotate_left; (· (intro y hy; (try dsimp only at hy); go_simp; try with_reducible rfl)); try simp only [Act.put, List.setIfInBounds_toArray, List.set_cons_zero, List.set_cons_succ, List.getElem_toArray, List.getElem_cons_zero, List.getElem_cons_succ])
          | (refine wpAnyH_take (i := 11) (v := undef) rfl (by kernel_rfl) (by kernel_rfl) (by kernel_rfl) (fun _ _ _ h => h) (Or.inr ⟨by rfl, rfl⟩) hS ?_; try simp only [Act.put, List.setIfInBounds_toArray, List.set_cons_zero, List.set_cons_succ, List.getElem_toArray, List.getElem_cons_zero, List.getElem_cons_succ])
          refine wpAnyH_ready (rs := [12]) (by kernel_rfl) (by simp) ?_
          refine AllReadyH.cons (o := _) rfl (fun K hK => ?_) AllReadyH.nil
          have f11 := hh.blk.free 11
          have cow := hh.blk.cell 11
          simp only [hpC] at cow
          go_simp
          clear cow f11
          have hcs := (Chg.refl (· = H) vU2).setCell (p := ⟨H, 11, none⟩) (.inl rfl) (.int .i64 ((s.ow - (tn' - s.tn) : Nat) : Int))
          have hmH := ne_of_types hm1 hh.blk (by decide)
          have hqH := ne_of_types hq1 hh.blk (by decide)
          have hm2 := hm1.chg hcs hmH
          have hq2 := hq1.chg hcs hqH
          have hh2 : HeapIn _ H P b v0 v1 v2 v3 { s with l := l', ow := s.ow - (tn' - s.tn) } := hh.cells hcs rfl (four rfl rfl rfl rfl) (hh.blk.set 11 _)
          have hc2 := hc1.trans (hcs.mono fun k e => .inl e)
          refine hK.out _ _ (⟨⟨hm2.cell 0, hm2.cell 1, hm2.cell 2⟩, hq2.cell 0, hq2.cell 1, hq2.cell 2⟩) (fun hS => ?_)
          clear hK K
          try simp only [Act.put, List.setIfInBounds_toArray, List.set_cons_zero, List.set_cons_succ]
          refine wpAnyH_done (by kernel_rfl) ?_ _
          refine NoPanic.normal ?_
          obtain ⟨⟨d0, d1, d2⟩, _⟩ := blk3 hm2
          have ML := laid_any hh2 hF g.u01 tn' n g.ln
          go_wp2_with fail
          refine ML.mono ?_
          rintro e v3 ⟨rfl, hW⟩
          go_wp2
          go_ret
          exact ⟨rfl, es.symm ▸ Went.after hc2 (fun k e => e.elim (fun e => hF k (.inl e)) fun e => hF k (.inr (.inr (.inl e)))) hW⟩
        · go_simp
          refine (U1 _).mono ?_
          rintro e vU1 ⟨rfl, hb⟩
          replace hh := hh.on hb
          replace hm1 := hm1.more hb (Nat.le_refl _)
          replace hq1 := hq1.more hb (Nat.le_refl _)
          replace hc1 := hc1.trans (Chg.of_below hb (Nat.le_refl _))
          clear hb
          refine hK.out _ _ (⟨⟨hm1.cell 0, hm1.cell 1, hm1.cell 2⟩, hq1.cell 0, hq1.cell 1, hq1.cell 2⟩) (fun hS => ?_)
          clear hK K
          try simp only [Act.put, List.setIfInBounds_toArray, List.set_cons_zero, List.set_cons_succ]
          refine wpAnyH_ready (rs := [3, 7]) (by kernel_rfl) (by simp) ?_
          refine AllReadyH.cons (o := _) rfl (fun K hK => ?_) (AllReadyH.cons (o := _) rfl (fun K hK => ?_) AllReadyH.nil)
          · have cow := hh.blk.cell 11
            simp only [hpC] at cow
            go_simp
            clear cow
            refine hK.out _ _ (⟨⟨hm1.cell 0, hm1.cell 1, hm1.cell 2⟩, hq1.cell 0, hq1.cell 1, hq1.cell 2⟩) (fun hS => ?_)
            clear hK K
            try simp only [Act.put, List.setIfInBounds_toArray, List.set_cons_zero, List.set_cons_succ]
            refine wpAnyH_ready (rs := [7]) (by kernel_rfl) (by simp) ?_
            refine AllReadyH.cons (o := _) rfl (fun K hK => ?_) AllReadyH.nil
            go_simp
            refine (U2 _).mono ?_
            rintro e vU2 ⟨rfl, hb⟩
            replace hh := hh.on hb
            replace hm1 := hm1.more hb (Nat.le_refl _)
            replace hq1 := hq1.more hb (Nat.le_refl _)
            replace hc1 := hc1.trans (Chg.of_below hb (Nat.le_refl _))
            clear hb
            refine hK.out _ _ (⟨⟨hm1.cell 0, hm1.cell 1, hm1.cell 2⟩, hq1.cell 0, hq1.cell 1, hq1.cell 2⟩) (fun hS => ?_)
            clear hK K
            try simp only [Act.put, List.setIfInBounds_toArray, List.set_cons_zero, List.set_cons_succ]
            first
            | (refine wpAnyH_take (i := 8) (v := ?_) rfl (by kernel_rfl) (by kernel_rfl) (by kernel_rfl) (fun _ _ _ h => h) (Or.inl ⟨by rfl, ?_⟩) hS ?_; rotate_left; (· (intro y hy; (try dsimp only at hy); go_simp; try with_reducible rfl)); try simp only [Act.put, List.setIfInBounds_toArray, List.set_cons_zero, List.set_cons_succ, List.getElem_toArray, List.getElem_cons_zero, List.getElem_cons_succ])
            | (refine wpAnyH_take (i := 8) (v := undef) rfl (by kernel_rfl) (by kernel_rfl) (by kernel_rfl) (fun _ _ _ h => h) (Or.inr ⟨by rfl, rfl⟩) hS ?_; try simp only [Act.put, List.setIfInBounds_toArray, List.set_cons_zero, List.set_cons_succ, List.getElem_toArray, List.getElem_cons_zero, List.getElem_cons_succ])
            first
            | (refine wpAnyH_take (i := 9) (v := ?_) rfl (by kernel_rfl) (by kernel_rfl) (by kernel_rfl) (fun _ _ _ h => h) (Or.inl ⟨by rfl, ?_⟩) hS ?_; rotate_left; (· (intro y hy; (try dsimp only at hy); go_simp; try with_reducible rfl)); try simp only [Act.put, List.setIfInBounds_toArray, List.set_cons_zero, List.set_cons_succ, List.getElem_toArray, List.getElem_cons_zero, List.getElem_cons_succ])
            | (refine wpAnyH_take (i := 9) (v := undef) rfl (by kernel_rfl) (by kernel_rfl) (by kernel_rfl) (fun _ _ _ h => h) (Or.inr ⟨by rfl, rfl⟩) hS ?_; try simp only [Act.put, List.setIfInBounds_toArray, List.set_cons_zero, List.set_cons_succ, List.getElem_toArray, List.getElem_cons_zero, List.getElem_cons_succ])
            first
            | (refine wpAnyH_take (i := 10) (v := ?_) rfl (by kernel_rfl) (by kernel_rfl) (by kernel_rfl) (fun _ _ _ h => h) (Or.inl ⟨by rfl, ?_⟩) hS ?_; rotate_left; (· (intro y hy; (try dsimp only at hy); go_simp; try with_reducible rfl)); try simp only [Act.put, List.setIfInBounds_toArray, List.set_cons_zero, List.set_cons_succ, List.getElem_toArray, List.getElem_cons_zero, List.getElem_cons_succ])
            | (refine wpAnyH_take (i := 10) (v := undef) rfl (by kernel_rfl) (by kernel_rfl) (by kernel_rfl) (fun _ _ _ h => h) (Or.inr ⟨by rfl, rfl⟩) hS ?_; try simp only [Act.put, List.setIfInBounds_toArray, List.set_cons_zero, List.set_cons_succ, List.getElem_toArray, List.getElem_cons_zero, List.getElem_cons_succ])
            first
            | (refine wpAnyH_take (i := 11) (v := ?_) rfl (by kernel_rfl) (by kernel_rfl) (by kernel_rfl) (fun _ _ _ h => h) (Or.inl ⟨by rfl, ?_⟩) hS ?_; rotate_left; (· (intro y hy; (try dsimp only at hy); go_simp; try with_reducible rfl)); try simp only [Act.put, List.setIfInBounds_toArray, List.set_cons_zero, List.set_cons_succ, List.getElem_toArray, List.getElem_cons_zero, List.getElem_cons_succ])
            | (refine wpAnyH_take (i := 11) (v := undef) rfl (by kernel_rfl) (by kernel_rfl) (by kernel_rfl) (fun _ _ _ h => h) (Or.inr ⟨by rfl, rfl⟩) hS ?_; try simp only [Act.put, List.setIfInBounds_toArray, List.set_cons_zero, List.set_cons_succ, List.getElem_toArray, List.getElem_cons_zero, List.getElem_cons_succ])
            refine wpAnyH_ready (rs := [12]) (by kernel_rfl) (by simp) ?_
            refine AllReadyH.cons (o := _) rfl (fun K hK => ?_) AllReadyH.nil
            have f11 := hh.blk.free 11
            have cow := hh.blk.cell 11
            simp only [hpC] at cow
            go_simp
            clear cow f11
            have hcs := (Chg.refl (· = H) vU2).setCell (p := ⟨H, 11, none⟩) (.inl rfl) (.int .i64 ((s.ow - (tn' - s.tn) : Nat) : Int))
            have hmH := ne_of_types hm1 hh.blk (by decide)
            have hqH := ne_of_types hq1 hh.blk (by decide)
            have hm2 := hm1.chg hcs hmH
            have hq2 := hq1.chg hcs hqH
            have hh2 : HeapIn _ H P b v0 v1 v2 v3 { s with l := l', ow := s.ow - (tn' - s.tn) } := hh.cells hcs rfl (four rfl rfl rfl rfl) (hh.blk.set 11 _)
            have hc2 := hc1.trans (hcs.mono fun k e => .inl e)
            refine hK.out _ _ (⟨⟨hm2.cell 0, hm2.cell 1, hm2.cell 2⟩, hq2.cell 0, hq2.cell 1, hq2.cell 2⟩) (fun hS => ?_)
            clear hK K
            try simp only [Act.put, List.setIfInBounds_toArray, List.set_cons_zero, List.set_cons_succ]
            refine wpAnyH_done (by kernel_rfl) ?_ _
            refine NoPanic.normal ?_
            obtain ⟨⟨d0, d1, d2⟩, _⟩ := blk3 hm2
            have ML := laid_any hh2 hF g.u01 tn' n g.ln
            go_wp2_with fail
            refine ML.mono ?_
            rintro e v3 ⟨rfl, hW⟩
            go_wp2
            go_ret
            exact ⟨rfl, es.symm ▸ Went.after hc2 (fun k e => e.elim (fun e => hF k (.inl e)) fun e => hF k (.inr (.inr (.inl e)))) hW⟩
          · go_simp
            refine (U2 _).mono ?_
            rintro e vU2 ⟨rfl, hb⟩
            replace hh := hh.on hb
            replace hm1 := hm1.more hb (Nat.le_refl _)
            replace hq1 := hq1.more hb (Nat.le_refl _)
            replace hc1 := hc1.trans (Chg.of_below hb (Nat.le_refl _))
            clear hb
            refine hK.out _ _ (⟨⟨hm1.cell 0, hm1.cell 1, hm1.cell 2⟩, hq1.cell 0, hq1.cell 1, hq1.cell 2⟩) (fun hS => ?_)
            clear hK K
            try simp only [Act.put, List.setIfInBounds_toArray, List.set_cons_zero, List.set_cons_succ]
            first
            | (refine wpAnyH_take (i := 8) (v := ?_) rfl (by kernel_rfl) (by kernel_rfl) (by kernel_rfl) (fun _ _ _ h => h) (Or.inl ⟨by rfl, ?_⟩) hS ?_; rotate_left; (· (intro y hy; (try dsimp only at hy); go_simp; try with_reducible rfl)); try simp only [Act.put, List.setIfInBounds_toArray, List.set_cons_zero, List.set_cons_succ, List.getElem_toArray, List.getElem_cons_zero, List.getElem_cons_succ])
            | (refine wpAnyH_take (i := 8) (v := undef) rfl (by kernel_rfl) (by kernel_rfl) (by kernel_rfl) (fun _ _ _ h => h) (Or.inr ⟨by rfl, rfl⟩) hS ?_; try simp only [Act.put, List.setIfInBounds_toArray, List.set_cons_zero, List.set_cons_succ, List.getElem_toArray, List.getElem_cons_zero, List.getElem_cons_succ])
            refine wpAnyH_ready (rs := [3]) (by kernel_rfl) (by simp) ?_
            refine AllReadyH.cons (o := _) rfl (fun K hK => ?_) AllReadyH.nil
            have cow := hh.blk.cell 11
            simp only [hpC] at cow
            go_simp
            clear cow
            refine hK.out _ _ (⟨⟨hm1.cell 0, hm1.cell 1, hm1.cell 2⟩, hq1.cell 0, hq1.cell 1, hq1.cell 2⟩) (fun hS => ?_)
            clear hK K
            try simp only [Act.put, List.setIfInBounds_toArray, List.set_cons_zero, List.set_cons_succ]
            first
            | (refine wpAnyH_take (i := 9) (v := ?_) rfl (by kernel_rfl) (by kernel_rfl) (by kernel_rfl) (fun _ _ _ h => h) (Or.inl ⟨by rfl, ?_⟩) hS ?_; rotate_left; (· (intro y hy; (try dsimp only at hy); go_simp; try with_reducible rfl)); try simp only [Act.put, List.setIfInBounds_toArray, List.set_cons_zero, List.set_cons_succ, List.getElem_toArray, List.getElem_cons_zero, List.getElem_cons_succ])
            | (refine wpAnyH_take (i := 9) (v := undef) rfl (by kernel_rfl) (by kernel_rfl) (by kernel_rfl) (fun _ _ _ h => h) (Or.inr ⟨by rfl, rfl⟩) hS ?_; try simp only [Act.put, List.setIfInBounds_toArray, List.set_cons_zero, List.set_cons_succ, List.getElem_toArray, List.getElem_cons_zero, List.getElem_cons_succ])
            first
            | (refine wpAnyH_take (i := 10) (v := ?_) rfl (by kernel_rfl) (by kernel_rfl) (by kernel_rfl) (fun _ _ _ h => h) (Or.inl ⟨by rfl, ?_⟩) hS ?_; rotate_left; (· (intro y hy; (try dsimp only at hy); go_simp; try with_reducible rfl)); try simp only [Act.put, List.setIfInBounds_toArray, List.set_cons_zero, List.set_cons_succ, List.getElem_toArray, List.getElem_cons_zero, List.getElem_cons_succ])
            | (refine wpAnyH_take (i := 10) (v := undef) rfl (by kernel_rfl) (by kernel_rfl) (by kernel_rfl) (fun _ _ _ h => h) (Or.inr ⟨by rfl, rfl⟩) hS ?_; try simp only [Act.put, List.setIfInBounds_toArray, List.set_cons_zero, List.set_cons_succ, List.getElem_toArray, List.getElem_cons_zero, List.getElem_cons_succ])
            first
            | (refine wpAnyH_take (i := 11) (v := ?_) rfl (by kernel_rfl) (by kernel_rfl) (by kernel_rfl) (fun _ _ _ h => h) (Or.inl ⟨by rfl, ?_⟩) hS ?_; rotate_left; (· (intro y hy; (try dsimp only at hy); go_simp; try with_reducible rfl)); try simp only [Act.put, List.setIfInBounds_toArray, List.set_cons_zero, List.set_cons_succ, List.getElem_toArray, List.getElem_cons_zero, List.getElem_cons_succ])
            | (refine wpAnyH_take (i := 11) (v := undef) rfl (by kernel_rfl) (by kernel_rfl) (by kernel_rfl) (fun _ _ _ h => h) (Or.inr ⟨by rfl, rfl⟩) hS ?_; try simp only [Act.put, List.setIfInBounds_toArray, List.set_cons_zero, List.set_cons_succ, List.getElem_toArray, List.getElem_cons_zero, List.getElem_cons_succ])
            refine wpAnyH_ready (rs := [12]) (by kernel_rfl) (by simp) ?_
            refine AllReadyH.cons (o := _) rfl (fun K hK => ?_) AllReadyH.nil
            have f11 := hh.blk.free 11
            have cow := hh.blk.cell 11
            simp only [hpC] at cow
            go_simp
            clear cow f11
            have hcs := (Chg.refl (· = H) vU2).setCell (p := ⟨H, 11, none⟩) (.inl rfl) (.int .i64 ((s.ow - (tn' - s.tn) : Nat) : Int))
            have hmH := ne_of_types hm1 hh.blk (by decide)
            have hqH := ne_of_types hq1 hh.blk (by decide)
            have hm2 := hm1.chg hcs hmH
            have hq2 := hq1.chg hcs hqH
            have hh2 : HeapIn _ H P b v0 v1 v2 v3 { s with l := l', ow := s.ow - (tn' - s.tn) } := hh.cells hcs rfl (four rfl rfl rfl rfl) (hh.blk.set 11 _)
            have hc2 := hc1.trans (hcs.mono fun k e => .inl e)
            refine hK.out _ _ (⟨⟨hm2.cell 0, hm2.cell 1, hm2.cell 2⟩, hq2.cell 0, hq2.cell 1, hq2.cell 2⟩) (fun hS => ?_)
            clear hK K
            try simp only [Act.put, List.setIfInBounds_toArray, List.set_cons_zero, List.set_cons_succ]
            refine wpAnyH_done (by kernel_rfl) ?_ _
            refine NoPanic.normal ?_
            obtain ⟨⟨d0, d1, d2⟩, _⟩ := blk3 hm2
            have ML := laid_any hh2 hF g.u01 tn' n g.ln
            go_wp2_with fail
            refine ML.mono ?_
            rintro e v3 ⟨rfl, hW⟩
            go_wp2
            go_ret
            exact ⟨rfl, es.symm ▸ Went.after hc2 (fun k e => e.elim (fun e => hF k (.inl e)) fun e => hF k (.inr (.inr (.inl e)))) hW⟩
end

end Go.Proofs.Ytoohnnkhklifdaa

namespace Go.Proofs.Ytoohnnkhklifdaa
open Go.ChangeShapes Go.WideShapes Go.ChangeAt Go.RowKit

set_option linter.unusedSimpArgs false
set_option linter.unusedVariables false

/-- A place that may be asked for. -/
def InOk (s : Hp) (p : Nat) : Prop := p = 0 ∨ p ∈ s.pn ∨ p ∈ s.pk
theorem Okw.moved_live {s : Hp} (h : Okw s) {p : Nat} (hp : p ∈ s.pk) (ho : isOb s.l p) : s.moved p = s.go p ∧ s.movV p = s.tn := by
  unfold Hp.moved Hp.movV
  have := ho.odd
  exact ⟨if_pos ⟨hp, this⟩, by rw [if_pos hp, if_pos this]⟩
section
variable {s : Hp} (h : Okw s) {p : Nat}
include h
theorem Okw.mvOf (hp : p ∈ s.pk) : s.mv = true := by
  cases e : s.mv
  · rw [(h.stop e).1] at hp; simp at hp
  · rfl
theorem Okw.alive (hp : p ∈ s.pk) : isOb s.l p ∨ (¬ isOb s.l p ∧ hdW s.l p % 2 = 0 ∧ ∃ n ∈ s.pn, s.l.getD p 0 = ((2 + n * 4 : Nat) : Int) ∧ hdW s.l p / 4 = n ∧ fwd s.l p = n) := by
  rcases (h.ink p hp).2.2 with ⟨e, _⟩ | ⟨n, hn, e⟩
  · exact .inl e
  · have g := gone_fwd e
    exact .inr ⟨g.2.2, g.2.1, n, hn, e, by rw [gone_hdW e]; omega, g.1⟩
theorem Okw.odd_iff (hp : p ∈ s.pk) : hdW s.l p % 2 = 1 ↔ isOb s.l p := by
  rcases h.alive hp with e | ⟨e, e2, _⟩
  · exact ⟨fun _ => e, fun _ => e.odd⟩
  · exact ⟨fun h => by omega, fun h => absurd h e⟩
theorem Okw.moved_gone (hp : p ∈ s.pk) (ho : ¬ isOb s.l p) : s.moved p = s ∧ s.movV p = fwd s.l p ∧ s.movV p ∈ s.pn := by
  rcases h.alive hp with e | ⟨_, e2, n, hn, e3, e4, e5⟩
  · exact absurd e ho
  · unfold Hp.moved Hp.movV
    have e6 : ¬ hdW s.l p % 2 = 1 := by omega
    rw [if_pos hp, if_neg e6, e4, e5]
    exact ⟨if_neg fun e => e6 e.2, rfl, hn⟩
end
section
variable {s : Hp} (h : Ok s) {p : Nat}
include h
theorem Ok.moved (q : Nat) : Ok (s.moved q) := by
  by_cases hp : q ∈ s.pk
  · by_cases ho : isOb s.l q
    · rw [(h.moved_live hp ho).1]; exact h.go hp ho (h.mvOf hp)
    · rw [(h.moved_gone hp ho).1]; exact h
  · have : s.moved q = s := if_neg fun e => hp e.1
    rw [this]; exact h
end
theorem movV_out {s : Hp} {p : Nat} (hp : p ∉ s.pk) : s.moved p = s ∧ s.movV p = p := ⟨if_neg fun e => hp e.1, if_neg hp⟩
theorem moved_pn (s : Hp) (p : Nat) {x : Nat} (hx : x ∈ s.pn) : x ∈ (s.moved p).pn := by
  unfold Hp.moved
  split
  · exact List.mem_append_left _ hx
  · exact hx
theorem moved_same (s : Hp) (p : Nat) : (s.moved p).pk = s.pk ∧ (s.moved p).mv = s.mv ∧ (s.moved p).u = s.u ∧ (s.moved p).z = s.z ∧ (s.moved p).sc = s.sc ∧ (s.moved p).se = s.se ∧ (s.moved p).wk = s.wk ∧ (s.moved p).fi = s.fi ∧ (s.moved p).tk = s.tk := by
  unfold Hp.moved
  split <;> exact ⟨rfl, rfl, rfl, rfl, rfl, rfl, rfl, rfl, rfl⟩
theorem inOk_moved {s : Hp} {p q : Nat} (hq : InOk s q) : InOk (s.moved p) q := hq.imp id fun e => e.imp (moved_pn s p) fun e => by rw [(moved_same s p).1]; exact e
section
variable {s : Hp} (h : Ok s) {p : Nat}
include h
theorem Ok.movV_in (hp : InOk s p) : s.movV p = 0 ∧ p = 0 ∨ s.movV p ∈ (s.moved p).pn := by
  by_cases hk : p ∈ s.pk
  · by_cases ho : isOb s.l p
    · rw [(h.moved_live hk ho).1, (h.moved_live hk ho).2]
      exact .inr (List.mem_append_right _ (by simp))
    · have g := h.moved_gone hk ho
      rw [g.1]
      exact .inr g.2.2
  · rw [(movV_out hk).1, (movV_out hk).2]
    rcases hp with e | e | e
    · exact .inl ⟨e, e⟩
    · exact .inr e
    · exact absurd e hk
theorem Ok.movV_le (hp : InOk s p) : s.movV p ≤ 131072 := by
  have h1 := h.len
  have h2 := h.z1
  rcases h.movV_in hp with ⟨e, _⟩ | e
  · omega
  · have := ((h.moved p).pn_lt e).2.2
    have h3 := (h.moved p).len
    rw [(moved_same s p).2.2.2.1] at h3
    omega
theorem movedH {w : World} {K : Nat → Prop} {H : Nat} (hw : HeapAt w K H s) (hin : InOk s p) :
    Calls Try.prog 11 #[.pointer (some ⟨H, 0, none⟩), .int .i64 p] w fun e w' => e = .returned (.int .i64 (s.movV p)) ∧ Went w K H (s.moved p) w' := by
  obtain ⟨P, b, v0, v1, v2, v3, hi, hF⟩ := hw
  by_cases hk : p ∈ s.pk
  · by_cases ho : isOb s.l p
    · have g := h.go_place hk ho
      have hf := h.fits hk ho
      have hb := h.bases
      have h1 := h.z1
      have hy := szA_pos (l := s.l) (a := p)
      have M := moved_yes hi hF h.sound p s.tn (s.tn + szA s.l p) (s.go p).l hk (h.go_len hk ho) ⟨by omega, by omega⟩ fun x hx =>
        copy_yes p s.bn s.z s.tn x hx ho.of ⟨by omega, by omega, by omega, by omega⟩ (by omega) hf.1 (by have e : nA s.l p = 3 + hp (hdW s.l p) + hd (hdW s.l p) := rfl; omega)
      rw [if_neg (by omega)] at M
      rw [(h.moved_live hk ho).1, (h.moved_live hk ho).2]
      have e : s.tn + szA s.l p - s.tn = szA s.l p := by omega
      rw [e] at M
      exact M
    · rcases h.alive hk with e | ⟨_, e2, n, hn, e3, e4, e5⟩
      · exact absurd e ho
      · have hk1 := h.pk_lt hk
        have hn1 := h.pn_lt hn
        have h1 := h.z1
        have h2 := h.len
        have M := moved_yes hi hF h.sound p n s.tn s.l hk rfl ⟨Nat.le_refl _, by omega⟩ fun x hx => (copy_gone p n s.bn s.z s.tn x hx hk1.2 hn1.1 (by omega) e3).mono fun e x' ⟨a1, a2⟩ => ⟨a1, hx.below a2 hx.lt.1 hx.lt.2, Chg.of_below a2 (Nat.le_refl _)⟩
        rw [if_pos rfl] at M
        rw [(h.moved_gone hk ho).1, (h.moved_gone hk ho).2.1, e5]
        exact M
  · rw [(movV_out hk).1, (movV_out hk).2]
    exact (moved_no hi h.sound p hk).mono fun e x ⟨a1, a2⟩ => ⟨a1, Went.of_below ⟨P, b, v0, v1, v2, v3, hi, hF⟩ a2⟩
end

end Go.Proofs.Ytoohnnkhklifdaa

namespace Go.Proofs.Ytoohnnkhklifdaa
open Go.ChangeShapes Go.WideShapes Go.ChangeAt Go.RowKit

set_option linter.unusedSimpArgs false
set_option linter.unusedVariables false

set_option maxRecDepth 100000 in
set_option maxHeartbeats 2000000 in
theorem arePtrs_yes (v : Value) (vs : List Nat) (w : World) (hv : ReadsAs .i64 w v (nums vs)) (hb : ∀ x ∈ vs, x ≤ 131072) :
    Calls Try.prog 52 #[v] w fun e w' => e = .returned (.bool true) ∧ Below w.heap.size w w' := by
  obtain ⟨va, vc, rfl, hr⟩ := hv.slice
  have HR := Lib.hid hr
  have HB := Lib.hid hb
  have hm := hv.1
  unfold maxLen at hm
  clear hr hv hb
  rw [nums_length] at hm
  obtain ⟨n, hn⟩ : ∃ n, vs.length = n := ⟨_, rfl⟩
  have Hn := Lib.hid hn
  rw [nums_length, hn]
  rw [hn] at hm
  clear hn
  go_enter Try.func52, Try.ntmps52
  go_wp2
  go_loopw [7] (fun i wr => ∃ k : Nat, k ≤ n ∧ i = .int .i64 k ∧ Below w.heap.size w wr) (fun i _ => n - (intOf i).toNat)
  case atStart => exact ⟨0, by omega, rfl, Below.refl _ _⟩
  case round =>
    obtain ⟨k, hk, rfl, hB⟩ := hrel
    by_cases hlt : k < n
    · obtain ⟨g, e, hg, hc, hcell⟩ := HR.out (by rw [nums_length, Hn.out]; omega)
      subst e
      have c0 := (hB.cell (p := ⟨g, k, none⟩) hg).trans (hcell k (by rw [nums_length, Hn.out]; omega))
      rw [nums_getD (by rw [Hn.out]; omega)] at c0
      have hq : vs.getD k 0 ≤ 131072 := HB.out _ (by
        rw [List.getD_eq_getElem?_getD, List.getElem?_eq_getElem (by rw [Hn.out]; omega)]
        exact List.getElem_mem _)
      generalize vs.getD k 0 = q at *
      have b0 : (0 : Int) ≤ (k : Int) := by omega
      have b1 : (k : Int) < (n : Int) := by omega
      have d0 : decide ((q : Int) < 0) = false := decide_eq_false (by omega)
      have d1 : decide ((131072 : Int) < (q : Int)) = false := decide_eq_false (by omega)
      have d2 : decide (131072 < q) = false := decide_eq_false (by omega)
      clear hcell HR
      go_wp2
      go_roundw
      case rel => exact ⟨k + 1, by omega, by go_num, hB⟩
      case measure => simp [intOf]; omega
    · obtain rfl : k = n := by omega
      go_wp2
      go_ret
      exact ⟨rfl, hB⟩

/-- What is laid over an object's pointers. -/
def setP (l : List Int) (a : Nat) (vs : List Nat) : List Int := layL l (a + 3) (fun i => ((vs.getD i 0 : Nat) : Int)) vs.length
theorem setP_length (l : List Int) (a : Nat) (vs : List Nat) : (setP l a vs).length = l.length := layL_length ..
theorem setP_at {l : List Int} {a j : Nat} {vs : List Nat} (h : j < l.length) : (setP l a vs).getD j 0 = if a + 3 ≤ j ∧ j < a + 3 + vs.length then ((vs.getD (j - (a + 3)) 0 : Nat) : Int) else l.getD j 0 := layL_at _ _ _ _ _ h

section
variable {P b : Nat} {l : List Int} {p d : Nat} {wk fn fr : Bool}
set_option maxRecDepth 100000 in
set_option maxHeartbeats 2000000 in
theorem setStrong_at (a : Nat) (v : Value) (vs : List Nat) (w : World) (h : ArenaAt 76 w P b l) (o : ObjIs l a p d wk fn fr) (hn : vs.length = if wk then 0 else p) (hv : ReadsAs .i64 w v (nums vs)) (hvb : v.ownBlock ≠ some b) (hb : ∀ x ∈ vs, x ≤ 131072) :
    Calls Try.prog 31 #[.pointer (some ⟨P, 0, none⟩), .int .i64 a, v] w fun e w' => e = .returned (.int .i64 0) ∧ ArenaAt 76 w' P b (setP l a vs) ∧ Chg (· = b) w w' := by
  have HC := strong_count a w h o
  rw [← hn] at HC
  have HA := fun x (hx : Below w.heap.size w x) => arePtrs_yes v vs x (hv.below hx) hb
  have hnp : vs.length ≤ p := by rw [hn]; split <;> omega
  have hp8 := o.ptrs
  have hlt := h.lt
  obtain ⟨va, vc, rfl, hr⟩ := hv.slice
  have HR := Lib.hid hr
  have HB := Lib.hid hb
  clear hr hb
  unfold setP
  obtain ⟨n, hn'⟩ : ∃ n, vs.length = n := ⟨_, rfl⟩
  have Hn := Lib.hid hn'
  rw [hn'] at HC hnp ⊢
  rw [nums_length, hn'] at HA ⊢
  clear hn hn'
  have hvb' : 0 < n → ∀ g, va = some ⟨g, 0, none⟩ → g ≠ b := fun _ g e eb => by
    subst e; subst eb
    exact hvb rfl
  have HVB := Lib.hid hvb'
  clear hvb' hvb
  have key : ∀ k, layL l (a + 3) (fun i => ((vs.getD i 0 : Nat) : Int)) (k + 1) = (layL l (a + 3) (fun i => ((vs.getD i 0 : Nat) : Int)) k).set (a + (3 + k)) ((vs.getD k 0 : Nat) : Int) := fun k => by
    show (layL _ _ _ k).set (a + 3 + k) _ = _
    rw [Nat.add_assoc]
  have hob : ∀ k, ObjIs (layL l (a + 3) (fun i => ((vs.getD i 0 : Nat) : Int)) k) a p d wk fn fr := fun k => o.same (layL_length ..) (by
    have := o.room
    rw [layL_at _ _ _ _ _ (by omega), if_neg (by omega)])
  have Hkey := Lib.hid key
  have Hob := Lib.hid hob
  clear key hob
  generalize hL : layL l (a + 3) (fun i => ((vs.getD i 0 : Nat) : Int)) = L at *
  have hL0 : L 0 = l := by rw [← hL]; rfl
  clear hL
  go_enter Try.func31, Try.ntmps31
  go_wp2_with fail
  refine HC.mono ?_
  rintro e x ⟨rfl, hx⟩
  go_wp2_with fail
  refine (HA _ hx).mono ?_
  rintro e y ⟨rfl, hy⟩
  replace hy := hx.trans (hy.mono hx.size)
  clear HC HA hx x
  go_wp2
  go_loopw [31] (fun i wr => ∃ k : Nat, k ≤ n ∧ i = .int .i64 k ∧ ArenaAt 76 wr P b (L k) ∧ Chg (· = b) w wr) (fun i _ => n - (intOf i).toNat)
  case atStart => exact ⟨0, by omega, rfl, by rw [hL0]; exact h.below hy hlt.1 hlt.2, Chg.of_below hy (Nat.le_refl _)⟩
  case round =>
    obtain ⟨k, hk, rfl, hA, hC⟩ := hrel
    by_cases hlt : k < n
    · obtain ⟨g, e, hg, hc, hcell⟩ := HR.out (by rw [nums_length, Hn.out]; omega)
      subst e
      have c0 := (hC.cell (p := ⟨g, k, none⟩) hg (HVB.out (by omega) g rfl)).trans (hcell k (by rw [nums_length, Hn.out]; omega))
      rw [nums_getD (by rw [Hn.out]; omega)] at c0
      have hq : vs.getD k 0 ≤ 131072 := HB.out _ (by
        rw [List.getD_eq_getElem?_getD, List.getElem?_eq_getElem (by rw [Hn.out]; omega)]
        exact List.getElem_mem _)
      have hkk := Hkey.out k
      have M := setPtr_at a k (vs.getD k 0) wr hA (Hob.out k) (by omega) hq
      rw [← hkk] at M
      have b0 : (0 : Int) ≤ (k : Int) := by omega
      have b1 : (k : Int) < (n : Int) := by omega
      clear hkk hcell HR hv
      generalize vs.getD k 0 = q at *
      go_wp2_with fail
      refine M.mono ?_
      rintro e z ⟨rfl, hA2, hC2⟩
      go_wp2
      go_roundw
      case rel => exact ⟨k + 1, by omega, by go_num, hA2, hC.trans hC2⟩
      case measure => simp [intOf]; omega
    · obtain rfl : k = n := by omega
      go_wp2
      go_ret
      exact ⟨rfl, hA, hC⟩
end

end Go.Proofs.Ytoohnnkhklifdaa

namespace Go.Proofs.Ytoohnnkhklifdaa
open Go.ChangeShapes Go.WideShapes Go.ChangeAt Go.RowKit

set_option linter.unusedSimpArgs false
set_option linter.unusedVariables false

theorem movedL_cons (s : Hp) (p : Nat) (ps : List Nat) : s.movedL (p :: ps) = (s.moved p).movedL ps := rfl
theorem movedL_snoc (s : Hp) (p : Nat) (ps : List Nat) : s.movedL (ps ++ [p]) = (s.movedL ps).moved p := by unfold Hp.movedL; rw [List.foldl_append]; rfl
theorem movVL_length (s : Hp) (ps : List Nat) : (s.movVL ps).length = ps.length := by
  induction ps generalizing s with
  | nil => rfl
  | cons p ps ih => show ((s.moved p).movVL ps).length + 1 = _; rw [ih]; rfl
theorem movVL_snoc (s : Hp) (p : Nat) (ps : List Nat) : s.movVL (ps ++ [p]) = s.movVL ps ++ [(s.movedL ps).movV p] := by
  induction ps generalizing s with
  | nil => rfl
  | cons q ps ih => show s.movV q :: (s.moved q).movVL (ps ++ [p]) = _; rw [ih]; rfl
theorem movedL_pn (s : Hp) (ps : List Nat) {x : Nat} (hx : x ∈ s.pn) : x ∈ (s.movedL ps).pn := by
  induction ps generalizing s with
  | nil => exact hx
  | cons p ps ih => exact ih (s.moved p) (moved_pn s p hx)
theorem movedL_same (s : Hp) (ps : List Nat) : (s.movedL ps).pk = s.pk ∧ (s.movedL ps).mv = s.mv ∧ (s.movedL ps).u = s.u ∧ (s.movedL ps).z = s.z ∧ (s.movedL ps).sc = s.sc ∧ (s.movedL ps).se = s.se ∧ (s.movedL ps).wk = s.wk ∧ (s.movedL ps).fi = s.fi ∧ (s.movedL ps).tk = s.tk := by
  induction ps generalizing s with
  | nil => exact ⟨rfl, rfl, rfl, rfl, rfl, rfl, rfl, rfl, rfl⟩
  | cons p ps ih =>
    obtain ⟨a1, a2, a3, a4, a5, a6, a7, a8, a9⟩ := ih (s.moved p)
    obtain ⟨b1, b2, b3, b4, b5, b6, b7, b8, b9⟩ := moved_same s p
    exact ⟨a1.trans b1, a2.trans b2, a3.trans b3, a4.trans b4, a5.trans b5, a6.trans b6, a7.trans b7, a8.trans b8, a9.trans b9⟩
theorem inOk_movedL {s : Hp} (ps : List Nat) {q : Nat} (hq : InOk s q) : InOk (s.movedL ps) q := by
  induction ps generalizing s with
  | nil => exact hq
  | cons p ps ih => exact ih (inOk_moved hq)
theorem Ok.movedL {s : Hp} (h : Ok s) (ps : List Nat) : Ok (s.movedL ps) := by
  induction ps generalizing s with
  | nil => exact h
  | cons p ps ih => exact ih (h.moved p)
theorem Ok.moved_word {s : Hp} (h : Ok s) (p : Nat) {x t : Nat} (hx : x ∈ s.pn) (ht : t < nA s.l x) : (s.moved p).l.getD (x + t) 0 = s.l.getD (x + t) 0 := by
  by_cases hk : p ∈ s.pk
  · by_cases ho : isOb s.l p
    · rw [(h.moved_live hk ho).1]; exact h.go_pn hk ho hx ht
    · rw [(h.moved_gone hk ho).1]
  · rw [(movV_out hk).1]
theorem Ok.moved_head {s : Hp} (h : Ok s) (p : Nat) {x : Nat} (hx : x ∈ s.pn) : (s.moved p).l.getD x 0 = s.l.getD x 0 := by
  have := ((h.inn x hx).2.1).nA_le
  exact h.moved_word p (t := 0) hx (by omega)
/-- What is in the space in use keeps its words. -/
theorem Ok.movedL_word {s : Hp} (h : Ok s) (ps : List Nat) {x t : Nat} (hx : x ∈ s.pn) (ht : t < nA s.l x) : (s.movedL ps).l.getD (x + t) 0 = s.l.getD (x + t) 0 := by
  induction ps generalizing s with
  | nil => rfl
  | cons p ps ih =>
    rw [movedL_cons, ih (h.moved p) (moved_pn s p hx) (by rw [nA_congr (h.moved_head p hx)]; exact ht)]
    exact h.moved_word p hx ht
theorem Ok.movedL_head {s : Hp} (h : Ok s) (ps : List Nat) {x : Nat} (hx : x ∈ s.pn) : (s.movedL ps).l.getD x 0 = s.l.getD x 0 := by
  have := ((h.inn x hx).2.1).nA_le
  exact h.movedL_word ps (t := 0) hx (by omega)
/-- What each is now: nothing, or what is in the space in use. -/
theorem Ok.movVL_in {s : Hp} (h : Ok s) (ps : List Nat) (hp : ∀ p ∈ ps, InOk s p) : ∀ v ∈ s.movVL ps, v = 0 ∨ v ∈ (s.movedL ps).pn := by
  induction ps generalizing s with
  | nil => intro v hv; exact absurd hv (by simp [Hp.movVL])
  | cons p ps ih =>
    intro v hv
    have hv' : v ∈ s.movV p :: (s.moved p).movVL ps := hv
    rcases List.mem_cons.1 hv' with rfl | hv'
    · rcases h.movV_in (hp p List.mem_cons_self) with ⟨e, _⟩ | e
      · exact .inl e
      · exact .inr (movedL_pn (s.moved p) ps e)
    · exact ih (h.moved p) (fun q hq => inOk_moved (hp q (List.mem_cons_of_mem _ hq))) v hv'
theorem Okw.pn_le {s : Hp} (h : Okw s) {v : Nat} (hv : v = 0 ∨ v ∈ s.pn) : v ≤ 131072 := by
  rcases hv with e | e
  · omega
  · have := (h.pn_lt e).2.2
    have := h.len; have := h.z1
    omega

/-- The strong pointers of the object at a place. -/
def nSt (l : List Int) (a : Nat) : Nat := if hw (hdW l a) then 0 else hp (hdW l a)
def stP (l : List Int) (a : Nat) : List Nat := (ptrL l a (nSt l a)).map Int.toNat
theorem stP_length (l : List Int) (a : Nat) : (stP l a).length = nSt l a := by unfold stP; rw [List.length_map, ptrL_length]
theorem Okw.stP_in {s : Hp} (h : Okw s) {x : Nat} (hx : Live s x) : ∀ p ∈ stP s.l x, InOk s p := by
  intro p hp'
  obtain ⟨v, hv, rfl⟩ := List.mem_map.1 hp'
  obtain ⟨i, hi, rfl⟩ := mem_ptrL hv
  rcases h.ptr x hx i (by revert hi; unfold nSt; split <;> omega) with e | ⟨y, e, hy⟩
  · rw [e]; exact .inl rfl
  · rw [e, Int.toNat_natCast]; exact .inr hy
theorem Okw.stP_nums {s : Hp} (h : Okw s) {x : Nat} (hx : Live s x) : nums (stP s.l x) = ptrL s.l x (nSt s.l x) := by
  unfold nums stP
  rw [List.map_map]
  refine (List.map_congr_left fun v hv => ?_).trans (List.map_id _)
  obtain ⟨i, hi, rfl⟩ := mem_ptrL hv
  rcases h.ptr x hx i (by revert hi; unfold nSt; split <;> omega) with e | ⟨y, e, hy⟩
  · rw [e]; rfl
  · rw [e]; rfl
/-- The next object is scanned. -/
def Hp.scan (s : Hp) : Hp := { s.movedL (stP s.l s.sc) with l := setP (s.movedL (stP s.l s.sc)).l s.sc (s.movVL (stP s.l s.sc)), sc := s.sc + szA s.l s.sc }

end Go.Proofs.Ytoohnnkhklifdaa

namespace Go.Proofs.Ytoohnnkhklifdaa
open Go.ChangeShapes Go.WideShapes Go.ChangeAt Go.RowKit

set_option linter.unusedSimpArgs false
set_option linter.unusedVariables false

/-- The head at a place is as it was, but for whether it is freed. -/
def HeadLike (l l' : List Int) (x : Nat) : Prop := l'.getD x 0 = l.getD x 0 ∨ (isOb l x ∧ isOb l' x ∧ hp (hdW l' x) = hp (hdW l x) ∧ hd (hdW l' x) = hd (hdW l x) ∧ hw (hdW l' x) = hw (hdW l x) ∧ hf (hdW l' x) = hf (hdW l x))
section
variable {l l' : List Int} {x : Nat} (hl : l'.length = l.length) (h : HeadLike l l' x)
include h
theorem HeadLike.fields : hp (hdW l' x) = hp (hdW l x) ∧ hd (hdW l' x) = hd (hdW l x) ∧ hw (hdW l' x) = hw (hdW l x) ∧ hf (hdW l' x) = hf (hdW l x) := by
  rcases h with e | ⟨_, _, e⟩
  · rw [hdW_congr e]; exact ⟨rfl, rfl, rfl, rfl⟩
  · exact e
theorem HeadLike.nA : nA l' x = nA l x := by
  have := h.fields
  unfold Go.Proofs.Ytoohnnkhklifdaa.nA
  rw [this.1, this.2.1]
theorem HeadLike.szA : szA l' x = szA l x := by unfold Go.Proofs.Ytoohnnkhklifdaa.szA; rw [h.nA]
theorem HeadLike.odd : hdW l' x % 2 = hdW l x % 2 := by
  rcases h with e | ⟨e1, e2, _⟩
  · rw [hdW_congr e]
  · rw [e1.odd, e2.odd]
theorem HeadLike.fwd : fwd l' x = fwd l x := by
  rcases h with e | ⟨e1, e2, _⟩
  · exact fwd_congr e
  · rw [e1.fwd, e2.fwd]
include hl
theorem HeadLike.ob : isOb l' x ↔ isOb l x := by
  rcases h with e | ⟨e1, e2, _⟩
  · exact isOb_congr hl e
  · exact ⟨fun _ => e1, fun _ => e2⟩
end

theorem Okw.rewrite {s : Hp} (h : Okw s) (l' : List Int) (sc' : Nat) (hl : l'.length = s.l.length) (h0 : l'.getD 0 0 = 0) (hh : ∀ x, x ∈ s.pn ∨ x ∈ s.pk → HeadLike s.l l' x) (hs : ∀ x, Live s x → l'.getD (x + 2) 0 = s.l.getD (x + 2) 0)
    (hp' : ∀ x, Live s x → ∀ i, i < hp (hdW s.l x) → PtrOk s (l'.getD (x + (3 + i)) 0)) (hb : s.mv = true → ∀ x ∈ s.pn, x < sc' → hw (hdW s.l x) = false → ∀ i, i < hp (hdW s.l x) → l'.getD (x + (3 + i)) 0 = 0 ∨ ∃ y ∈ s.pn, l'.getD (x + (3 + i)) 0 = ((y : Nat) : Int))
    (hc : s.mv = true → sc' = s.tn ∨ sc' ∈ s.pn) : Okw { s with l := l', sc := sc' } := by
  have hlive : ∀ x, Live { s with l := l', sc := sc' } x ↔ Live s x := fun x => by
    unfold Live
    refine or_congr Iff.rfl (and_congr_right fun hx => ?_)
    exact (hh x (.inr hx)).ob hl
  have hinn : ∀ x, Live s x → x ∈ s.pn ∨ x ∈ s.pk := fun x hx => hx.imp id fun e => e.1
  have hfwd : ∀ a, (a ∈ s.pn ∨ a ∈ s.pk) → (fwd s.l a ∈ s.pn ∨ fwd s.l a ∈ s.pk) := fun a ha => by
    rcases ha with e | e
    · rw [((h.inn a e).2.1).fwd]; exact .inl e
    · rcases h.alive e with e1 | ⟨_, _, n, hn, _, _, e5⟩
      · rw [e1.fwd]; exact .inr e
      · rw [e5]; exact .inl hn
  refine ⟨h.u01, h.z0, h.z1, hl.trans h.len, h0, h.k0, h.k1, h.room, ?_, ?_, fun x hx => ?_, fun x hx => ?_, ?_, ?_, h.fst, fun x hx => ?_, h.stop, h.sel, fun x hx => ?_, fun x hx i hi => ?_, fun hm x hx hlt hwk i hi => ?_, hc, fun a ha => ?_, fun x hx hwk => ?_, h.fin, h.wkl, h.fil⟩
  · rw [h.sum]
    exact congrArg _ (sum_congr fun x hx => ((hh x (.inl hx)).szA).symm)
  · rw [h.owe]
    refine sum_congr fun x hx => ?_
    unfold ows
    rw [(hh x (.inr hx)).odd, (hh x (.inr hx)).szA]
  · obtain ⟨a1, a2, a3⟩ := h.inn x hx
    exact ⟨a1, ((hh x (.inl hx)).ob hl).2 a2, by rw [(hh x (.inl hx)).szA]; exact a3⟩
  · obtain ⟨a1, a2, a3⟩ := h.ink x hx
    refine ⟨a1, a2, ?_⟩
    rcases a3 with ⟨b1, b2⟩ | ⟨n, hn, b1⟩
    · exact .inl ⟨((hh x (.inr hx)).ob hl).2 b1, by rw [(hh x (.inr hx)).szA]; exact b2⟩
    · refine .inr ⟨n, hn, ?_⟩
      rcases hh x (.inr hx) with e | ⟨e, _⟩
      · exact e.trans b1
      · exact absurd e (gone_fwd b1).2.2
  · exact pairwise_congr h.srn fun x hx y hy e => by rw [(hh x (.inl hx)).szA]; exact e
  · exact pairwise_congr h.srk fun x hx y hy e => ⟨e.1, fun ho => by rw [(hh x (.inr hx)).szA]; exact e.2 (((hh x (.inr hx)).ob hl).1 ho)⟩
  · rw [(hh x (.inl hx)).szA]; exact h.nxt x hx
  · have hx' := (hlive x).1 hx
    rw [hs x hx']; exact h.ser x hx'
  · have hx' := (hlive x).1 hx
    rw [(hh x (hinn x hx')).fields.1] at hi
    exact hp' x hx' i hi
  · rw [(hh x (.inl hx)).fields.1] at hi
    rw [(hh x (.inl hx)).fields.2.2.1] at hwk
    exact hb hm x hx hlt hwk i hi
  · obtain ⟨a1, a2⟩ := h.wks a ha
    refine ⟨a1, ?_⟩
    show hw (hdW l' (fwd l' a)) = true
    rw [(hh a a1).fwd, (hh _ (hfwd a a1)).fields.2.2.1]
    exact a2
  · rw [(hh x (.inl hx)).fields.2.2.1] at hwk
    obtain ⟨a, ha, e⟩ := h.wka x hx hwk
    exact ⟨a, ha, by show fwd l' a = x; rw [(hh a (h.wks a ha).1).fwd]; exact e⟩

/-- Two live objects, or a live one and a place, are apart. -/
theorem Okw.live_apart {s : Hp} (h : Okw s) {x y t : Nat} (hx : Live s x) (hy : y ∈ s.pn ∨ y ∈ s.pk) (hne : x ≠ y) (ht : t < nA s.l x) : x + t ≠ y ∧ (isOb s.l y → ∀ r, r < nA s.l y → x + t ≠ y + r) := by
  have hox := h.live_ob hx
  have h1 := hox.nA_le
  have hb := h.bases
  have hr := h.room
  have hk := h.k1
  have hyr : isOb s.l y → 3 ≤ nA s.l y ∧ nA s.l y ≤ szA s.l y := fun e => ⟨e.nA_le.1, e.nA_le.2.2.1⟩
  have inn := fun a (ha : a ∈ s.pn) => h.inn a ha
  have ink : ∀ a, a ∈ s.pk → s.bk ≤ a ∧ a < s.tk ∧ (isOb s.l a → a + szA s.l a ≤ s.tk) := fun a ha => by
    obtain ⟨a1, a2, a3⟩ := h.ink a ha
    refine ⟨a1, a2, fun ho => ?_⟩
    rcases a3 with ⟨_, a3⟩ | ⟨n, _, a3⟩
    · exact a3
    · exact absurd ho (gone_fwd a3).2.2
  rcases hx with hx | ⟨hx, _⟩ <;> rcases hy with hy | hy
  · have e1 := inn x hx
    have e2 := inn y hy
    have e3 := e2.2.1.nA_le
    rcases pairwise_get h.srn hx hy with e | e | e
    · exact absurd e hne
    · exact ⟨by omega, fun _ r hr => by omega⟩
    · exact ⟨by omega, fun _ r hr => by omega⟩
  · have e1 := inn x hx
    have e2 := ink y hy
    refine ⟨by omega, fun ho r hr => ?_⟩
    have := hyr ho; have := e2.2.2 ho
    omega
  · have e1 := ink x hx
    have e2 := inn y hy
    have e3 := e1.2.2 hox
    have e4 := e2.2.1.nA_le
    exact ⟨by omega, fun _ r hr => by omega⟩
  · have e1 := ink x hx
    have e2 := ink y hy
    have e3 := e1.2.2 hox
    rcases pairwise_get h.srk hx hy with e | e | e
    · exact absurd e hne
    · have := e.2 hox
      exact ⟨by omega, fun _ r hr => by omega⟩
    · refine ⟨by omega, fun ho r hr => ?_⟩
      have := e.2 ho; have := hyr ho
      omega

/-- A word of an object that is here is set: its second one, a number, or a pointer that may be. -/
theorem Okw.put {s : Hp} (h : Okw s) {x t : Nat} {v : Int} (hx : x ∈ s.pn) (ht : t < nA s.l x) (h1 : t = 1 ∨ 3 ≤ t) (hv : 3 ≤ t → t < 3 + hp (hdW s.l x) → PtrOk s v) (hb : s.mv = true → x < s.sc → hw (hdW s.l x) = false → 3 ≤ t → t < 3 + hp (hdW s.l x) → v = 0 ∨ ∃ y ∈ s.pn, v = ((y : Nat) : Int)) :
    Okw (s.put (x + t) v) := by
  have hob := (h.inn x hx).2.1
  have hn := hob.nA_le
  have key : ∀ j, j < s.l.length → (s.l.set (x + t) v).getD j 0 = if j = x + t then v else s.l.getD j 0 := fun j hj => set_at' hj
  have hlx := h.pn_lt hx
  have hword : ∀ y r, Live s y → r < nA s.l y → (s.l.set (x + t) v).getD (y + r) 0 = if y = x ∧ r = t then v else s.l.getD (y + r) 0 := fun y r hy hr => by
    have := (h.live_ob hy).nA_le
    rw [key _ (by omega)]
    by_cases e : y = x
    · subst e
      by_cases e2 : r = t
      · subst e2; rw [if_pos rfl, if_pos ⟨rfl, rfl⟩]
      · rw [if_neg (by omega), if_neg fun e => e2 e.2]
    · rw [if_neg, if_neg fun e' => e e'.1]
      exact (h.live_apart hy (.inl hx) e hr).2 hob t ht
  have hheads : ∀ y, y ∈ s.pn ∨ y ∈ s.pk → (s.l.set (x + t) v).getD y 0 = s.l.getD y 0 := fun y hy => by
    have hyl : y < s.l.length := hy.elim (fun e => (h.pn_lt e).2.2) fun e => (h.pk_lt e).2
    rw [key _ hyl, if_neg]
    by_cases e : x = y
    · omega
    · exact fun e' => (h.live_apart (.inl hx) hy e ht).1 e'.symm
  refine h.rewrite (s.l.set (x + t) v) s.sc (by simp) ?_ (fun y hy => .inl (hheads y hy)) (fun y hy => ?_) (fun y hy i hi => ?_) (fun hm y hy hlt hwk i hi => ?_) h.scn
  · rw [key _ (by omega), if_neg (by omega)]; exact h.zero
  · have := (h.live_ob hy).nA_le
    rw [hword y 2 hy (by omega), if_neg (by omega)]
  · have := (h.live_ob hy).nA_le
    rw [hword y (3 + i) hy (by unfold nA; omega)]
    split
    · rename_i e
      rw [e.1] at hi
      exact hv (by omega) (by omega)
    · exact h.ptr y hy i hi
  · rw [hword y (3 + i) (.inl hy) (by unfold nA; omega)]
    split
    · rename_i e
      rw [e.1] at hi hwk hlt
      exact hb hm hlt hwk (by omega) (by omega)
    · exact h.blk hm y hy hlt hwk i hi

/-- All of it. -/
theorem Ok.again {s : Hp} (h : Ok s) {l' : List Int} {sc' : Nat} (g : Okw { s with l := l', sc := sc' }) (hl : l'.length = s.l.length) (hh : ∀ x, x ∈ s.pn ∨ x ∈ s.pk → HeadLike s.l l' x) : Ok { s with l := l', sc := sc' } := by
  refine ⟨g, fun x hx ho hwk => ?_⟩
  have e := hh x (.inr hx)
  rw [e.fields.2.2.1] at hwk
  obtain ⟨a, ha, ea⟩ := h.wkb x hx ((e.ob hl).1 ho) hwk
  exact ⟨a, ha, by show fwd l' a = x; rw [(hh a (h.wks a ha).1).fwd]; exact ea⟩
theorem Okw.put_heads {s : Hp} (h : Okw s) {x t : Nat} {v : Int} (hx : x ∈ s.pn) (ht : t < nA s.l x) (h1 : t = 1 ∨ 3 ≤ t) : ∀ y, y ∈ s.pn ∨ y ∈ s.pk → (s.put (x + t) v).l.getD y 0 = s.l.getD y 0 := fun y hy => by
  have hyl : y < s.l.length := hy.elim (fun e => (h.pn_lt e).2.2) fun e => (h.pk_lt e).2
  show (s.l.set (x + t) v).getD y 0 = _
  rw [set_at' hyl, if_neg]
  by_cases e : x = y
  · omega
  · exact fun e' => (h.live_apart (.inl hx) hy e ht).1 e'.symm
theorem Ok.put {s : Hp} (h : Ok s) {x t : Nat} {v : Int} (hx : x ∈ s.pn) (ht : t < nA s.l x) (h1 : t = 1 ∨ 3 ≤ t) (hv : 3 ≤ t → t < 3 + hp (hdW s.l x) → PtrOk s v) (hb : s.mv = true → x < s.sc → hw (hdW s.l x) = false → 3 ≤ t → t < 3 + hp (hdW s.l x) → v = 0 ∨ ∃ y ∈ s.pn, v = ((y : Nat) : Int)) :
    Ok (s.put (x + t) v) :=
  h.again (l' := s.l.set (x + t) v) (sc' := s.sc) (h.toOkw.put hx ht h1 hv hb) (by simp) fun y hy => .inl (h.put_heads hx ht h1 y hy)

end Go.Proofs.Ytoohnnkhklifdaa

namespace Go.Proofs.Ytoohnnkhklifdaa
open Go.ChangeShapes Go.WideShapes Go.ChangeAt Go.RowKit

set_option linter.unusedSimpArgs false
set_option linter.unusedVariables false

theorem getD_zeros (n j : Nat) : (List.replicate n (0 : Int)).getD j 0 = 0 := by
  rw [List.getD_eq_getElem?_getD, List.getElem?_replicate]
  split <;> rfl
theorem Ok.newOk {z : Nat} (h0 : 16 ≤ z) (h1 : z ≤ 16384) : Ok (Hp.new z) := by
  have hnl : ∀ x, ¬ Live (Hp.new z) x := fun x hx => hx.elim (fun e => by simp [Hp.new] at e) fun e => by simp [Hp.new] at e
  have hbk : (Hp.new z).bk = 1 + z := rfl
  have hbn : (Hp.new z).bn = 1 := rfl
  refine ⟨⟨.inl rfl, h0, h1, by simp [Hp.new], getD_zeros _ _, Nat.le_refl _, Nat.le_add_right _ _, ?_, rfl, rfl, fun x hx => ?_, fun x hx => ?_, List.Pairwise.nil, List.Pairwise.nil, .inl rfl, fun x hx => ?_, fun _ => ⟨rfl, rfl⟩, by show 0 ≤ 1099511627776; omega, fun x hx => absurd hx (hnl x), fun x hx => absurd hx (hnl x), fun e => ?_, fun e => ?_, fun a ha => ?_, fun x hx => ?_, fun a ha => ?_, Nat.le_refl _, Nat.le_refl _⟩, fun x hx => ?_⟩
  · show 1 + 0 ≤ 1 + z; omega
  all_goals first | (simp [Hp.new] at hx; done) | (simp [Hp.new] at e; done) | (simp [Hp.new] at ha; done)

theorem Ok.lay_key {s : Hp} (h : Ok s) {p d : Nat} {wk fn : Bool} (o1 : shB p d wk fn = true) (o2 : p ≤ 8) (o3 : d ≤ 8) (hr : Cls.rd (3 + p + d) ≤ s.room) {j : Nat} (hj : j < s.l.length) : (s.lay p d wk fn).l.getD j 0 = if j = s.tn + 2 then ((s.se + 1 : Nat) : Int) else if j = s.tn then ((headN p d wk fn false : Nat) : Int) else if s.tn ≤ j ∧ j < s.tn + (3 + p + d) then 0 else s.l.getD j 0 := by
  have := madeL_at (l := s.l) (a := s.tn) (p := p) (d := d) (wk := wk) (fn := fn) (serial := s.se + 1) hj
  exact this
theorem Ok.lay_place {s : Hp} (h : Ok s) {p d : Nat} {wk fn : Bool} (o1 : shB p d wk fn = true) (o2 : p ≤ 8) (o3 : d ≤ 8) (hr : Cls.rd (3 + p + d) ≤ s.room) : s.bn ≤ s.tn ∧ s.tn + Cls.rd (3 + p + d) + s.ow ≤ s.bn + s.z ∧ s.bn + s.z ≤ s.l.length ∧ 3 + p + d ≤ Cls.rd (3 + p + d) := by
  have h1 := h.t0
  have h2 := h.room
  have h3 := h.bases
  have h4 := h.len
  have h5 : 3 + p + d ≤ Cls.rd (3 + p + d) := Cls.rd_ge (by omega)
  unfold Hp.room at hr
  exact ⟨h1, by omega, by omega, h5⟩
theorem Ok.lay_len {s : Hp} (h : Ok s) {p d : Nat} {wk fn : Bool} (o1 : shB p d wk fn = true) (o2 : p ≤ 8) (o3 : d ≤ 8) (hr : Cls.rd (3 + p + d) ≤ s.room) : (s.lay p d wk fn).l.length = s.l.length := madeL_length ..
section
variable {s : Hp} (h : Ok s) {p d : Nat} {wk fn : Bool} (o1 : shB p d wk fn = true) (o2 : p ≤ 8) (o3 : d ≤ 8) (hr : Cls.rd (3 + p + d) ≤ s.room)
include h o1 o2 o3 hr
theorem Ok.lay_old {x t : Nat} (hx : Live s x) (ht : t < nA s.l x) : (s.lay p d wk fn).l.getD (x + t) 0 = s.l.getD (x + t) 0 := by
  have hl := h.lay_place o1 o2 o3 hr
  have hb := h.bases
  have ho := h.live_ob hx
  have hn := ho.nA_le
  have hk := h.k1
  have hxr : x + nA s.l x ≤ s.tn ∨ (s.bk ≤ x ∧ x + nA s.l x ≤ s.bk + s.z) := by
    rcases hx with e | ⟨e, _⟩
    · have := h.inn x e; left; omega
    · obtain ⟨a1, a2, a3⟩ := h.ink x e
      right
      rcases a3 with ⟨_, a3⟩ | ⟨n, _, a3⟩
      · omega
      · exact absurd ho (gone_fwd a3).2.2
  have h8 := hl.2.2.2
  rw [h.lay_key o1 o2 o3 hr (by omega), if_neg (by omega), if_neg (by omega), if_neg (by omega)]
theorem Ok.lay_head {x : Nat} (hx : x ∈ s.pn ∨ x ∈ s.pk) : (s.lay p d wk fn).l.getD x 0 = s.l.getD x 0 := by
  have hl := h.lay_place o1 o2 o3 hr
  have hb := h.bases
  have hk := h.k1
  have h8 := hl.2.2.2
  have hxr : x < s.tn ∨ (s.bk ≤ x ∧ x < s.bk + s.z) := by
    rcases hx with e | e
    · have := (h.pn_lt e).2.1; left; omega
    · obtain ⟨a1, a2, a3⟩ := h.ink x e
      right; omega
  have hxl : x < s.l.length := hx.elim (fun e => (h.pn_lt e).2.2) fun e => (h.pk_lt e).2
  rw [h.lay_key o1 o2 o3 hr hxl, if_neg (by omega), if_neg (by omega), if_neg (by omega)]
theorem Ok.lay_new : ObjIs (s.lay p d wk fn).l s.tn p d wk fn false := by
  have hl := h.lay_place o1 o2 o3 hr
  exact madeL_obj (s.se + 1) o1 o2 o3 (by omega)
theorem Ok.lay_live {x : Nat} : Live (s.lay p d wk fn) x ↔ x = s.tn ∨ Live s x := by
  have hpn : (s.lay p d wk fn).pn = s.pn ++ [s.tn] := rfl
  have hpk : (s.lay p d wk fn).pk = s.pk := rfl
  unfold Live
  rw [hpn, hpk, List.mem_append, List.mem_singleton]
  have hob : ∀ y, y ∈ s.pk → (isOb (s.lay p d wk fn).l y ↔ isOb s.l y) := fun y hy => isOb_congr (h.lay_len o1 o2 o3 hr) (h.lay_head o1 o2 o3 hr (.inr hy))
  constructor
  · rintro ((e | e) | ⟨e, e2⟩)
    · exact .inr (.inl e)
    · exact .inl e
    · exact .inr (.inr ⟨e, (hob x e).1 e2⟩)
  · rintro (e | e | ⟨e, e2⟩)
    · exact .inl (.inr e)
    · exact .inl (.inl e)
    · exact .inr ⟨e, (hob x e).2 e2⟩
theorem Ok.lay_fwd {x : Nat} (hx : x ∈ s.pn ∨ x ∈ s.pk) : fwd (s.lay p d wk fn).l x = fwd s.l x := fwd_congr (h.lay_head o1 o2 o3 hr hx)
theorem Ok.lay (hse : s.se < 1099511627776) : Ok (s.lay p d wk fn) := by
  have hl := h.lay_place o1 o2 o3 hr
  have h8 := hl.2.2.2
  have hlen := h.lay_len o1 o2 o3 hr
  have hnew := h.lay_new o1 o2 o3 hr
  have hb := h.bases
  have hpn : (s.lay p d wk fn).pn = s.pn ++ [s.tn] := rfl
  have hmem : ∀ x, x ∈ s.pn ++ [s.tn] ↔ x ∈ s.pn ∨ x = s.tn := fun x => by rw [List.mem_append, List.mem_singleton]
  have hhead := fun x hx => h.lay_head (x := x) o1 o2 o3 hr hx
  have hszT : szA (s.lay p d wk fn).l s.tn = Cls.rd (3 + p + d) := by unfold szA; rw [nA_obj hnew]
  have hsz : ∀ x ∈ s.pn, szA (s.lay p d wk fn).l x = szA s.l x := fun x hx => szA_congr (hhead x (.inl hx))
  have hptr : ∀ v, PtrOk s v → PtrOk (s.lay p d wk fn) v := fun v hv => hv.imp id fun ⟨y, e, hy⟩ => ⟨y, e, hy.imp (fun hy => by rw [hpn, hmem]; exact .inl hy) id⟩
  have hfT := hdW_obj hnew
  have hzero : ∀ i, i < p → (s.lay p d wk fn).l.getD (s.tn + (3 + i)) 0 = 0 := fun i hi => by
    rw [h.lay_key o1 o2 o3 hr (by omega), if_neg (by omega), if_neg (by omega), if_pos (by omega)]
  have hin : ∀ x, Live s x → x ∈ s.pn ∨ x ∈ s.pk := fun x hx => hx.imp id fun e => e.1
  have hwkm : ∀ a ∈ s.wk, a ∈ (s.lay p d wk fn).wk := fun a ha => by
    show a ∈ (if wk then s.wk ++ [s.tn] else s.wk)
    split
    · exact List.mem_append_left _ ha
    · exact ha
  have hwk : ∀ a ∈ (s.lay p d wk fn).wk, a ∈ s.wk ∨ (a = s.tn ∧ wk = true) := fun a ha => by
    have ha' : a ∈ (if wk then s.wk ++ [s.tn] else s.wk) := ha
    by_cases e : wk = true
    · rw [if_pos e, List.mem_append, List.mem_singleton] at ha'
      exact ha'.imp id fun e' => ⟨e', e⟩
    · rw [if_neg e] at ha'; exact .inl ha'
  have hwall : ∀ x, Live (s.lay p d wk fn) x → hw (hdW (s.lay p d wk fn).l x) = true → ∃ a ∈ (s.lay p d wk fn).wk, fwd (s.lay p d wk fn).l a = x := fun x hx hwx => by
    rcases (h.lay_live o1 o2 o3 hr).1 hx with e | e
    · subst e
      rw [hfT.2.2.2.1] at hwx
      refine ⟨s.tn, ?_, (show isOb _ _ from ⟨_, _, _, _, _, hnew⟩).fwd⟩
      show s.tn ∈ (if wk then s.wk ++ [s.tn] else s.wk)
      rw [if_pos hwx]
      exact List.mem_append_right _ (by simp)
    · rw [hdW_congr (hhead x (hin x e))] at hwx
      obtain ⟨a, ha, ea⟩ := h.wkAll x e hwx
      exact ⟨a, hwkm a ha, by rw [h.lay_fwd o1 o2 o3 hr (h.wks a ha).1]; exact ea⟩
  refine ⟨⟨h.u01, h.z0, h.z1, by rw [hlen]; exact h.len, ?_, h.k0, h.k1, ?_, ?_, ?_, fun x hx => ?_, fun x hx => ?_, ?_, ?_, ?_, fun x hx => ?_, h.stop, by show s.se + 1 ≤ _; omega, fun x hx => ?_, fun x hx i hi => ?_, fun hm x hx hlt hwx i hi => ?_, fun e => ?_, fun a ha => ?_, fun x hx hwx => hwall x (.inl hx) hwx, fun a ha => ?_, ?_, ?_⟩, fun x hx ho hwx => hwall x (.inr ⟨hx, ho⟩) hwx⟩
  · rw [h.lay_key o1 o2 o3 hr (by omega), if_neg (by omega), if_neg (by omega), if_neg (by omega)]; exact h.zero
  · show s.tn + Cls.rd (3 + p + d) + s.ow ≤ s.bn + s.z; omega
  · show s.tn + Cls.rd (3 + p + d) = s.bn + ((s.pn ++ [s.tn]).map _).sum
    rw [List.map_append, List.sum_append, sum_congr hsz, List.map_singleton, List.sum_singleton, hszT]
    have := h.sum; omega
  · rw [show (s.lay p d wk fn).ow = s.ow from rfl, h.owe]
    refine sum_congr fun x hx => ?_
    unfold ows
    rw [hdW_congr (hhead x (.inr hx)), szA_congr (hhead x (.inr hx))]
  · rw [hpn, hmem] at hx
    show s.bn ≤ x ∧ _ ∧ x + _ ≤ s.tn + Cls.rd (3 + p + d)
    rcases hx with hx | rfl
    · obtain ⟨a1, a2, a3⟩ := h.inn x hx
      exact ⟨a1, (isOb_congr hlen (hhead x (.inl hx))).2 a2, by rw [hsz x hx]; omega⟩
    · exact ⟨hl.1, ⟨_, _, _, _, _, hnew⟩, by rw [hszT]; omega⟩
  · obtain ⟨a1, a2, a3⟩ := h.ink x hx
    have e0 := hhead x (.inr hx)
    exact ⟨a1, a2, a3.imp (fun ⟨b1, b2⟩ => ⟨(isOb_congr hlen e0).2 b1, by rw [szA_congr e0]; exact b2⟩) fun ⟨n, b1, b2⟩ => ⟨n, by rw [hpn, hmem]; exact .inl b1, e0.trans b2⟩⟩
  · rw [hpn, List.pairwise_append]
    refine ⟨pairwise_congr h.srn fun x hx y hy e => by rw [hsz x hx]; exact e, List.pairwise_singleton _ _, fun x hx y hy => ?_⟩
    rw [List.mem_singleton] at hy
    subst hy
    rw [hsz x hx]
    exact (h.inn x hx).2.2
  · refine pairwise_congr h.srk fun x hx y hy e => ⟨e.1, fun hob => ?_⟩
    have e0 := hhead x (.inr hx)
    rw [szA_congr e0]
    exact e.2 ((isOb_congr hlen e0).1 hob)
  · right
    rw [hpn, hmem]
    rcases h.fst with e | e
    · exact .inr e.symm
    · exact .inl e
  · rw [hpn, hmem] at hx
    rw [hpn, hmem]
    show _ = s.tn + Cls.rd (3 + p + d) ∨ _
    rcases hx with hx | rfl
    · rw [hsz x hx]
      rcases h.nxt x hx with e | e
      · exact .inr (.inr e)
      · exact .inr (.inl e)
    · rw [hszT]; exact .inl rfl
  · show 1 ≤ _ ∧ _ ≤ ((s.se + 1 : Nat) : Int)
    rcases (h.lay_live o1 o2 o3 hr).1 hx with rfl | e
    · rw [h.lay_key o1 o2 o3 hr (by omega), if_pos rfl]; omega
    · have := (h.live_ob e).nA_le
      rw [h.lay_old o1 o2 o3 hr e (by omega)]
      have := h.ser x e
      omega
  · rcases (h.lay_live o1 o2 o3 hr).1 hx with rfl | e
    · rw [hfT.2.1] at hi
      rw [hzero i hi]; exact .inl rfl
    · have := (h.live_ob e).nA_le
      rw [hdW_congr (hhead x (hin x e))] at hi
      rw [h.lay_old o1 o2 o3 hr e (by unfold nA; omega)]
      exact hptr _ (h.ptr x e i hi)
  · rw [hpn, hmem] at hx
    rcases hx with hx | rfl
    · have := ((h.inn x hx).2.1).nA_le
      rw [hdW_congr (hhead x (.inl hx))] at hi hwx
      rw [h.lay_old o1 o2 o3 hr (.inl hx) (by unfold nA; omega)]
      exact (h.blk hm x hx hlt hwx i hi).imp id fun ⟨y, hy, e⟩ => ⟨y, by rw [hpn, hmem]; exact .inl hy, e⟩
    · rw [hfT.2.1] at hi
      exact .inl (hzero i hi)
  · rw [hpn, hmem]
    show s.sc = s.tn + Cls.rd (3 + p + d) ∨ _
    rcases h.scn e with e | e
    · exact .inr (.inr e)
    · exact .inr (.inl e)
  · rw [hpn, hmem]
    rcases hwk a ha with e | ⟨rfl, e⟩
    · obtain ⟨a1, a2⟩ := h.wks a e
      refine ⟨a1.imp .inl id, ?_⟩
      rw [h.lay_fwd o1 o2 o3 hr a1]
      have : fwd s.l a ∈ s.pn ∨ fwd s.l a ∈ s.pk := by
        rcases a1 with e1 | e1
        · rw [((h.inn a e1).2.1).fwd]; exact .inl e1
        · rcases h.alive e1 with e2 | ⟨_, _, n, hn, _, _, e5⟩
          · rw [e2.fwd]; exact .inr e1
          · rw [e5]; exact .inl hn
      rw [hdW_congr (hhead _ this)]; exact a2
    · refine ⟨.inl (.inr rfl), ?_⟩
      rw [(show isOb (s.lay p d wk fn).l s.tn from ⟨_, _, _, _, _, hnew⟩).fwd, hfT.2.2.2.1]; exact e
  · have ha' : a ∈ (if fn then s.fi ++ [s.tn] else s.fi) := ha
    rw [hpn, hmem]
    by_cases e : fn = true
    · rw [if_pos e, List.mem_append, List.mem_singleton] at ha'
      rcases ha' with e' | e'
      · exact (h.fin a e').imp .inl id
      · exact .inl (.inr e')
    · rw [if_neg e] at ha'; exact (h.fin a ha').imp .inl id
  · show (if wk then s.wk ++ [s.tn] else s.wk).length ≤ s.se + 1
    have := h.wkl
    split <;> simp <;> omega
  · show (if fn then s.fi ++ [s.tn] else s.fi).length ≤ s.se + 1
    have := h.fil
    split <;> simp <;> omega
end

end Go.Proofs.Ytoohnnkhklifdaa

namespace Go.Proofs.Ytoohnnkhklifdaa
open Go.ChangeShapes Go.WideShapes Go.ChangeAt Go.RowKit

set_option linter.unusedSimpArgs false
set_option linter.unusedVariables false

section
variable {w : World} {H P b : Nat} {v0 v1 v2 v3 : Value} {s : Hp} {K : Nat → Prop}
theorem Okw.fwd_zero (g : Okw s) : fwd s.l 0 = 0 := by unfold fwd hdW; rw [g.zero]; rfl
theorem Okw.inOk_le (g : Okw s) {p : Nat} (hp : InOk s p) : p < s.l.length ∧ p ≤ 65536 := by
  have := g.len; have := g.z1; have := g.z0
  rcases hp with rfl | e | e
  · omega
  · have := (g.pn_lt e).2.2; omega
  · have := (g.pk_lt e).2; omega
theorem Okw.fwd_in (g : Okw s) {p : Nat} (hp : InOk s p) : InOk s (fwd s.l p) ∧ (fwd s.l p = 0 ∨ Live s (fwd s.l p)) := by
  rcases hp with rfl | e | e
  · rw [g.fwd_zero]; exact ⟨.inl rfl, .inl rfl⟩
  · rw [((g.inn p e).2.1).fwd]; exact ⟨.inr (.inl e), .inr (.inl e)⟩
  · rcases g.alive e with e1 | ⟨_, _, n, hn, _, _, e5⟩
    · rw [e1.fwd]; exact ⟨.inr (.inr e), .inr (.inr ⟨e, e1⟩)⟩
    · rw [e5]; exact ⟨.inr (.inl hn), .inr (.inl hn)⟩

theorem nowH (h : HeapIn w H P b v0 v1 v2 v3 s) (g : Okw s) (p : Nat) (hp : InOk s p) :
    Calls Try.prog 57 #[.pointer (some ⟨H, 0, none⟩), .int .i64 p] w fun e w' => e = .returned (.int .i64 (fwd s.l p)) ∧ Below w.heap.size w w' := by
  have M : ∃ (n : Nat) (gb : Bool), (if gb then n else p) = fwd s.l p ∧ Calls Try.prog 46 #[.pointer (some ⟨P, 0, none⟩), .int .i64 p] w fun e w' => e = .returned (.tuple #[.int .i64 n, .bool gb]) ∧ Below w.heap.size w w' := by
    have hlen := g.inOk_le hp
    rcases hp with rfl | e | e
    · exact ⟨0, false, g.fwd_zero.symm, at_zero w h.ar hlen.1 g.zero⟩
    · exact ⟨0, false, ((g.inn p e).2.1).fwd.symm, at_obj p w h.ar (g.inn p e).2.1.of⟩
    · rcases g.alive e with e1 | ⟨_, _, n, hn, e3, _, e5⟩
      · exact ⟨0, false, e1.fwd.symm, at_obj p w h.ar e1.of⟩
      · have := g.pn_lt hn; have := g.len; have := g.z1
        exact ⟨n, true, e5.symm, at_gone p n w h.ar hlen.1 (by omega) (by omega) e3⟩
  obtain ⟨n, gb, hn, M⟩ := M
  have c0 : w.cell? ⟨H, 0, none⟩ = some (.pointer (some ⟨P, 0, none⟩)) := h.blk.cell 0
  clear h g hp
  rw [← hn]
  clear hn
  cases gb
  · go_enter Try.func57, Try.ntmps57
    go_wp2_with fail
    refine M.mono ?_
    rintro e x ⟨rfl, hb⟩
    go_wp2
    go_ret
    exact ⟨rfl, hb⟩
  · go_enter Try.func57, Try.ntmps57
    go_wp2_with fail
    refine M.mono ?_
    rintro e x ⟨rfl, hb⟩
    go_wp2
    go_ret
    exact ⟨rfl, hb⟩

def keptL (s : Hp) (l : List Nat) : List Nat := (l.map (fwd s.l)).filter fun a => decide (a ∈ s.pn)
def leftL (s : Hp) (l : List Nat) : List Nat := (l.map (fwd s.l)).filter fun a => !decide (a ∈ s.pn)
theorem take_next' {ps : List Nat} {k : Nat} (h : k < ps.length) : ps.take (k + 1) = ps.take k ++ [ps.getD k 0] := by
  rw [List.take_succ_eq_append_getElem h]
  simp [List.getD, h]
theorem keptL_next (s : Hp) {l : List Nat} {k : Nat} (h : k < l.length) : keptL s (l.take (k + 1)) = if fwd s.l (l.getD k 0) ∈ s.pn then keptL s (l.take k) ++ [fwd s.l (l.getD k 0)] else keptL s (l.take k) := by
  unfold keptL
  rw [take_next' h, List.map_append, List.filter_append, List.map_cons, List.map_nil]
  generalize fwd s.l (l.getD k 0) = q
  by_cases h2 : q ∈ s.pn <;> simp [h2]
theorem leftL_next (s : Hp) {l : List Nat} {k : Nat} (h : k < l.length) : leftL s (l.take (k + 1)) = if fwd s.l (l.getD k 0) ∈ s.pn then leftL s (l.take k) else leftL s (l.take k) ++ [fwd s.l (l.getD k 0)] := by
  unfold leftL
  rw [take_next' h, List.map_append, List.filter_append, List.map_cons, List.map_nil]
  generalize fwd s.l (l.getD k 0) = q
  by_cases h2 : q ∈ s.pn <;> simp [h2]
theorem keptL_len (s : Hp) (l : List Nat) : (keptL s l).length ≤ l.length := by unfold keptL; exact Nat.le_trans (List.length_filter_le _ _) (by simp)
theorem leftL_len (s : Hp) (l : List Nat) : (leftL s l).length ≤ l.length := by unfold leftL; exact Nat.le_trans (List.length_filter_le _ _) (by simp)

/-- Two rows of the call's own: both new since w, and apart. -/
structure TwoRows (B : Nat) (x : World) (v u : Value) (k l : List Nat) : Prop where
  r : RowIs x v k
  q : RowIs x u l
  vb : ∀ g, v.ownBlock = some g → B ≤ g
  ub : ∀ g, u.ownBlock = some g → B ≤ g
  far : ∀ g, v.ownBlock = some g → u.ownBlock ≠ some g
theorem TwoRows.on {B : Nat} {x y : World} {v u : Value} {k l : List Nat} (h : TwoRows B x v u k l) (hb : Below x.heap.size x y) : TwoRows B y v u k l :=
  ⟨h.r.chg (S := fun _ => False) (Chg.of_below hb (Nat.le_refl _)) fun _ _ h => h, h.q.chg (S := fun _ => False) (Chg.of_below hb (Nat.le_refl _)) fun _ _ h => h, h.vb, h.ub, h.far⟩
theorem TwoRows.swap {B : Nat} {x : World} {v u : Value} {k l : List Nat} (h : TwoRows B x v u k l) : TwoRows B x u v l k :=
  ⟨h.q, h.r, h.ub, h.vb, fun g e e' => h.far g e' e⟩
theorem TwoRows.push {B : Nat} {x y : World} {v u v' : Value} {k k' l : List Nat} (h : TwoRows B x v u k l) (hB : B ≤ x.heap.size) (hr : RowIs y v' k') (hg : x.grownBy y v.ownBlock) (hat : v'.ownBlock = v.ownBlock ∨ v'.ownBlock = some x.heap.size) : TwoRows B y v' u k' l := by
  refine ⟨hr, h.q.chg (Chg.of_grown (S := fun k => some k = v.ownBlock) hg fun _ e => e) fun g e e' => h.far g e'.symm e, fun g e => ?_, h.ub, fun g e e' => ?_⟩
  · rcases hat with h' | h'
    · rw [h'] at e; exact h.vb g e
    · rw [h'] at e; injection e with e; omega
  · rcases hat with h' | h'
    · rw [h'] at e; exact h.far g e e'
    · rw [h'] at e; injection e with e
      have := h.q.lt e'
      omega
theorem TwoRows.below {B : Nat} {x y w : World} {v u : Value} {k l : List Nat} (h : TwoRows B x v u k l) (hb : Below B w x) (hg : x.grownBy y v.ownBlock) (hB : B ≤ x.heap.size) : Below B w y :=
  hb.trans ((Chg.of_grown (S := fun k => some k = v.ownBlock) hg fun _ e => e).below (fun k e => h.vb k e.symm) hB)

set_option maxRecDepth 100000 in
set_option maxHeartbeats 4000000 in
theorem splitH (h : HeapIn w H P b v0 v1 v2 v3 s) (g : Okw s) (v : Value) (l : List Nat) (hv : ReadsAs .i64 w v (nums l)) (hl : l.length ≤ 1100000000000) (hp : ∀ a ∈ l, InOk s a) :
    Calls Try.prog 33 #[.pointer (some ⟨H, 0, none⟩), v] w fun e w' => ∃ kv lv, e = .returned (.tuple #[kv, lv]) ∧ TwoRows w.heap.size w' kv lv (keptL s l) (leftL s l) ∧ Below w.heap.size w w' := by
  obtain ⟨va, vc, rfl, hr⟩ := hv.slice
  have HR := Lib.hid hr
  have HP := Lib.hid hp
  clear hr hv hp
  obtain ⟨n, hn⟩ : ∃ n, l.length = n := ⟨_, rfl⟩
  have Hn := Lib.hid hn
  rw [nums_length, hn]
  rw [hn] at hl
  clear hn
  go_enter Try.func33, Try.ntmps33
  go_wp2
  go_loopw [10, 4, 5] (fun i kv lv wr => ∃ k : Nat, k ≤ n ∧ i = .int .i64 k ∧ TwoRows w.heap.size wr kv lv (keptL s (l.take k)) (leftL s (l.take k)) ∧ Below w.heap.size w wr) (fun i _ _ _ => n - (intOf i).toNat)
  case atStart => exact ⟨0, by omega, rfl, ⟨World.ownsRow_nil _ _ _ _, World.ownsRow_nil _ _ _ _, fun g e => by simp [Value.ownBlock] at e, fun g e => by simp [Value.ownBlock] at e, fun g e => by simp [Value.ownBlock] at e⟩, Below.refl _ _⟩
  case round =>
    obtain ⟨k, hk, rfl, hT, hB⟩ := hrel
    by_cases hlt : k < n
    · obtain ⟨gr, e, hg, hc, hcell⟩ := HR.out (by rw [nums_length, Hn.out]; omega)
      subst e
      have c0 := (hB.cell (p := ⟨gr, k, none⟩) hg).trans (hcell k (by rw [nums_length, Hn.out]; omega))
      rw [nums_getD (by rw [Hn.out]; omega)] at c0
      have hK := keptL_next s (l := l) (k := k) (by rw [Hn.out]; omega)
      have hL := leftL_next s (l := l) (k := k) (by rw [Hn.out]; omega)
      have lk := keptL_len s (l.take k)
      have ll := leftL_len s (l.take k)
      rw [List.length_take, Hn.out] at lk ll
      have hin := HP.out (l.getD k 0) (by
        rw [List.getD_eq_getElem?_getD, List.getElem?_eq_getElem (by rw [Hn.out]; omega)]
        exact List.getElem_mem _)
      have M1 := nowH (h.on hB) g (l.getD k 0) hin
      clear hcell HR hin
      generalize l.getD k 0 = p at *
      generalize keptL s (l.take k) = kl at *
      generalize leftL s (l.take k) = ll' at *
      obtain ⟨q, hq⟩ : ∃ q, fwd s.l p = q := ⟨_, rfl⟩
      rw [hq] at M1 hK hL
      clear hq
      have HK := Lib.hid hK
      have HL := Lib.hid hL
      clear hK hL
      have b0 : (0 : Int) ≤ (k : Int) := by omega
      have b1 : (k : Int) < (n : Int) := by omega
      have hwr := hB.size
      go_wp2_with fail
      refine M1.mono ?_
      rintro e y ⟨rfl, hb⟩
      have hT2 := hT.on hb
      have hB2 := hB.trans (hb.mono hB.size)
      have M2 := here_any (h.on hB2) g.sound (q : Int)
      clear M1 c0 hT hB hb
      go_wp2_with fail
      refine M2.mono ?_
      rintro e z ⟨rfl, hb⟩
      replace hT2 := hT2.on hb
      replace hB2 := hB2.trans (hb.mono hB2.size)
      clear M2 hb
      have hzw := hB2.size
      have hba := (Below.refl _ z).alloc (Nat.le_refl _) (.cells #[.int .i64 q] 3)
      have hTa := hT2.on hba
      have hBa := hB2.trans (hba.mono hzw)
      have hcl := (BlkIs.new z #[.int .i64 q] 3).cell 0
      have hzs : w.heap.size ≤ (z.alloc (.cells #[.int .i64 q] 3)).heap.size := hBa.size
      by_cases hq : q ∈ s.pn
      · have d0 : decide ((q : Int) ∈ nums s.pn) = true := decide_eq_true (mem_nums.2 hq)
        have eK := HK.out
        have eL := HL.out
        rw [if_pos hq] at eK eL
        have EK := Lib.hid eK
        have EL := Lib.hid eL
        clear eK eL
        go_wp2_with (at_builtin; refine wpList_push rfl _ _ rfl u4 kl rfl hTa.r (by omega) z.heap.size q rfl hcl ?_; intro v' w' r3 hgr hat hsl; have hT3 := hTa.push hzs r3 hgr hat; have hB3 := hTa.below hBa hgr hzs)
        go_roundw
        case rel => exact ⟨k + 1, by omega, by go_num, by rw [EK.out, EL.out]; exact hT3, hB3⟩
        case measure => simp [intOf]; omega
      · have d0 : decide ((q : Int) ∈ nums s.pn) = false := decide_eq_false fun e => hq (mem_nums.1 e)
        have eK := HK.out
        have eL := HL.out
        rw [if_neg hq] at eK eL
        have EK := Lib.hid eK
        have EL := Lib.hid eL
        clear eK eL
        go_wp2_with (at_builtin; refine wpList_push rfl _ _ rfl u5 ll' rfl hTa.q (by omega) z.heap.size q rfl hcl ?_; intro v' w' r3 hgr hat hsl; have hT3 := (hTa.swap.push hzs r3 hgr hat).swap; have hB3 := hTa.swap.below hBa hgr hzs)
        go_roundw
        case rel => exact ⟨k + 1, by omega, by go_num, by rw [EK.out, EL.out]; exact hT3, hB3⟩
        case measure => simp [intOf]; omega
    · obtain rfl : k = n := by omega
      rw [List.take_of_length_le (by rw [Hn.out]; omega)] at hT
      go_wp2
      go_ret2
      exact ⟨_, _, rfl, hT, hB⟩
end

end Go.Proofs.Ytoohnnkhklifdaa

namespace Go.Proofs.Ytoohnnkhklifdaa
open Go.ChangeShapes Go.WideShapes Go.ChangeAt Go.RowKit

set_option linter.unusedSimpArgs false
set_option linter.unusedVariables false

/-- What a weak pointer leads to now, if that is here. -/
def Hp.lzQ (s : Hp) (a : Nat) : Nat := fwd s.l (s.l.getD (a + 3) 0).toNat
def Hp.lzV (s : Hp) (a : Nat) : Nat := if s.lzQ a = 0 ∨ s.lzQ a ∈ s.pn then s.lzQ a else 0
def Hp.loose1 (s : Hp) (a : Nat) : Hp := s.put (a + 3) (s.lzV a : Nat)
def Hp.looseL (s : Hp) (ws : List Nat) : Hp := ws.foldl Hp.loose1 s
def Hp.lost1 (s : Hp) (a : Nat) : List Nat := if s.lzQ a = 0 ∨ s.lzQ a ∈ s.pn then [] else [(s.l.getD (a + 2) 0).toNat]
def Hp.lostL (s : Hp) : List Nat → List Nat
  | [] => []
  | a :: ws => s.lost1 a ++ (s.loose1 a).lostL ws
theorem looseL_snoc (s : Hp) (a : Nat) (ws : List Nat) : s.looseL (ws ++ [a]) = (s.looseL ws).loose1 a := by unfold Hp.looseL; rw [List.foldl_append]; rfl
theorem lostL_snoc (s : Hp) (a : Nat) (ws : List Nat) : s.lostL (ws ++ [a]) = s.lostL ws ++ (s.looseL ws).lost1 a := by
  induction ws generalizing s with
  | nil => show s.lost1 a ++ [] = [] ++ s.lost1 a; simp
  | cons b ws ih =>
    show s.lost1 b ++ (s.loose1 b).lostL (ws ++ [a]) = (s.lost1 b ++ (s.loose1 b).lostL ws) ++ ((s.loose1 b).looseL ws).lost1 a
    rw [ih, List.append_assoc]
theorem looseL_eq (s : Hp) (ws : List Nat) : s.looseL ws = { s with l := (s.looseL ws).l } := by
  induction ws generalizing s with
  | nil => rfl
  | cons a ws ih =>
    have := ih (s.loose1 a)
    show (s.loose1 a).looseL ws = _
    rw [this]
    rfl
theorem lostL_len (s : Hp) (ws : List Nat) : (s.lostL ws).length ≤ ws.length := by
  induction ws generalizing s with
  | nil => exact Nat.le_refl _
  | cons a ws ih =>
    have := ih (s.loose1 a)
    show (s.lost1 a ++ (s.loose1 a).lostL ws).length ≤ ws.length + 1
    rw [List.length_append]
    have : (s.lost1 a).length ≤ 1 := by unfold Hp.lost1; split <;> simp
    omega
/-- A weak object that is here. -/
def WkAt (s : Hp) (a : Nat) : Prop := a ∈ s.pn ∧ hw (hdW s.l a) = true
theorem Okw.wk_one {s : Hp} (g : Okw s) {a : Nat} (ha : WkAt s a) : hp (hdW s.l a) = 1 ∧ 4 ≤ nA s.l a ∧ InOk s (s.l.getD (a + 3) 0).toNat ∧ s.l.getD (a + 3) 0 = ((s.l.getD (a + 3) 0).toNat : Int) := by
  have o := (g.inn a ha.1).2.1.of
  have hr := o.right
  rw [ha.2] at hr
  have h1 : hp (hdW s.l a) = 1 := by
    unfold shB at hr
    simp at hr
    omega
  refine ⟨h1, by unfold nA; omega, ?_⟩
  rcases g.ptr a (.inl ha.1) 0 (by omega) with e | ⟨y, e, hy⟩
  · have e' : s.l.getD (a + 3) 0 = 0 := e
    rw [e']; exact ⟨.inl rfl, rfl⟩
  · have e' : s.l.getD (a + 3) 0 = (y : Int) := e
    rw [e', Int.toNat_natCast]; exact ⟨.inr hy, rfl⟩
theorem lzV_in (s : Hp) (a : Nat) : s.lzV a = 0 ∨ s.lzV a ∈ s.pn := by
  unfold Hp.lzV
  split
  · rename_i h; exact h
  · exact .inl rfl
theorem Okw.loose1 {s : Hp} (g : Okw s) {a : Nat} (ha : WkAt s a) : Okw (s.loose1 a) := by
  have h1 := g.wk_one ha
  refine g.put (t := 3) ha.1 (by omega) (.inr (Nat.le_refl _)) (fun _ _ => ?_) (fun _ _ hwk => absurd (ha.2.symm.trans hwk) (by decide))
  rcases lzV_in s a with e | e
  · rw [e]; exact .inl rfl
  · exact .inr ⟨_, rfl, .inl e⟩
theorem Okw.loose1_head {s : Hp} (g : Okw s) {a x : Nat} (ha : WkAt s a) (hx : x ∈ s.pn ∨ x ∈ s.pk) : (s.loose1 a).l.getD x 0 = s.l.getD x 0 := by
  have h1 := g.wk_one ha
  have hxl : x < s.l.length := hx.elim (fun e => (g.pn_lt e).2.2) fun e => (g.pk_lt e).2
  show (s.l.set (a + 3) _).getD x 0 = _
  rw [set_at' hxl, if_neg]
  by_cases e : a = x
  · omega
  · exact fun e' => (g.live_apart (t := 3) (.inl ha.1) hx e (by omega)).1 e'.symm
theorem Okw.looseL {s : Hp} (g : Okw s) (ws : List Nat) (ha : ∀ a ∈ ws, WkAt s a) : Okw (s.looseL ws) ∧ ∀ x, x ∈ s.pn ∨ x ∈ s.pk → (s.looseL ws).l.getD x 0 = s.l.getD x 0 := by
  induction ws generalizing s with
  | nil => exact ⟨g, fun _ _ => rfl⟩
  | cons a ws ih =>
    have h0 := ha a List.mem_cons_self
    have g1 := g.loose1 h0
    have hh := fun x hx => g.loose1_head (x := x) h0 hx
    obtain ⟨a1, a2⟩ := ih g1 fun b hb => by
      obtain ⟨b1, b2⟩ := ha b (List.mem_cons_of_mem _ hb)
      exact ⟨b1, by rw [hdW_congr (hh b (.inl b1))]; exact b2⟩
    exact ⟨a1, fun x hx => (a2 x hx).trans (hh x hx)⟩

section
variable {w : World} {H P b : Nat} {v0 v1 v2 v3 : Value} {s : Hp} {K : Nat → Prop}
set_option maxRecDepth 100000 in
set_option maxHeartbeats 4000000 in
theorem loosenH (h : HeapIn w H P b v0 v1 v2 v3 s) (g : Okw s) (hwk : ∀ a ∈ s.wk, WkAt s a) :
    Calls Try.prog 34 #[.pointer (some ⟨H, 0, none⟩)] w fun e w' => ∃ lv, e = .returned lv ∧ RowIs w' lv (s.lostL s.wk) ∧ (∀ g, lv.ownBlock = some g → w.heap.size ≤ g) ∧ HeapIn w' H P b v0 v1 v2 v3 (s.looseL s.wk) ∧ Chg (· = b) w w' := by
  have c14 : w.cell? ⟨H, 14, none⟩ = some v2 := h.blk.cell 14
  have hwl : s.wk.length ≤ 1100000000000 := by have := g.wkl; have := g.sel; omega
  obtain ⟨va, vc, e2, hr⟩ := h.r2.reads.slice
  have hb2 := h.r2.ne h.ar.row (by decide)
  have hfl : ∀ k, Foot H P b v0 v1 v2 v3 k → k < w.heap.size := fun k hk => h.lt hk
  subst e2
  obtain ⟨ws, has⟩ : ∃ ws, s.wk = ws := ⟨_, rfl⟩
  rw [has] at hr hwl c14 h hb2 hfl ⊢
  rw [nums_length] at hr c14 h hb2 hfl ⊢
  obtain ⟨n, hn⟩ : ∃ n, ws.length = n := ⟨_, rfl⟩
  have Hn := Lib.hid hn
  rw [hn] at hwl hr c14 h hb2 hfl ⊢
  rw [has] at hwk
  have HW := Lib.hid hwk
  have HR := Lib.hid hr
  clear hwk hr hn has
  go_enter Try.func34, Try.ntmps34
  go_wp2
  go_loopw [15, 3] (fun i lv wr => ∃ k : Nat, k ≤ n ∧ i = .int .i64 k ∧ RowIs wr lv (s.lostL (ws.take k)) ∧ Hid (∀ g, lv.ownBlock = some g → w.heap.size ≤ g) ∧ HeapIn wr H P b v0 v1 (.slice va n vc) v3 (s.looseL (ws.take k)) ∧ Chg (· = b) w wr) (fun i _ _ => n - (intOf i).toNat)
  case atStart => exact ⟨0, by omega, rfl, World.ownsRow_nil _ _ _ _, Lib.hid fun g e => by simp [Value.ownBlock] at e, h, Chg.refl _ _⟩
  case round =>
    obtain ⟨k, hk, rfl, hrow, hlow, hi, hc⟩ := hrel
    by_cases hlt : k < n
    · obtain ⟨gr, e, hg, hcp, hcell⟩ := HR.out (by omega)
      subst e
      have c0 := (hc.cell (p := ⟨gr, k, none⟩) hg (fun e => hb2 (by rw [← e]; rfl))).trans (hcell k hlt)
      rw [nums_getD (by rw [Hn.out]; omega)] at c0
      obtain ⟨gk, hhk⟩ := g.looseL (ws.take k) fun a ha => HW.out a (List.mem_of_mem_take ha)
      have ha0 := HW.out (ws.getD k 0) (by
        rw [List.getD_eq_getElem?_getD, List.getElem?_eq_getElem (by rw [Hn.out]; omega)]
        exact List.getElem_mem _)
      have hpn : (s.looseL (ws.take k)).pn = s.pn := by rw [looseL_eq]
      have hak : WkAt (s.looseL (ws.take k)) (ws.getD k 0) := ⟨by rw [hpn]; exact ha0.1, by rw [hdW_congr (hhk _ (.inl ha0.1))]; exact ha0.2⟩
      have e1 := take_next' (ps := ws) (k := k) (by rw [Hn.out]; omega)
      have eL := looseL_snoc s (ws.getD k 0) (ws.take k)
      have eS := lostL_snoc s (ws.getD k 0) (ws.take k)
      rw [← e1] at eL eS
      have ll := lostL_len s (ws.take k)
      rw [List.length_take, Hn.out] at ll
      clear hcell HR ha0 hhk e1
      obtain ⟨a, ha⟩ : ∃ a, ws.getD k 0 = a := ⟨_, rfl⟩
      rw [ha] at c0 hak eL eS
      clear ha
      have EL := Lib.hid eL
      have ES := Lib.hid eS
      clear eL eS
      generalize s.looseL (ws.take k) = sk at *
      generalize s.lostL (ws.take k) = lk at *
      obtain ⟨w1, w2, w3, w4⟩ := gk.wk_one hak
      have ob := (gk.inn a hak.1).2.1
      have o := ob.of
      have hal := gk.pn_lt hak.1
      have hlen := gk.len
      have hz1 := gk.z1
      have hbd := gk.inOk_le w3
      have M1 : ∀ x, ArenaAt 76 x P b sk.l → Calls Try.prog 51 #[.pointer (some ⟨P, 0, none⟩), .int .i64 a, .int .i64 0] x fun e x' => e = .returned (.tuple #[.int .i64 ((sk.l.getD (a + 3) 0).toNat : Int), .int .i64 0]) ∧ Below x.heap.size x x' := fun x hx => by
        have := ptr_at a 0 x hx o (by omega) (by show 0 ≤ sk.l.getD (a + 3) 0 ∧ sk.l.getD (a + 3) 0 ≤ _; rw [w4]; omega)
        rw [← w4]
        exact this
      have M2 := fun x (hx : HeapIn x H P b v0 v1 (.slice (some ⟨gr, 0, none⟩) n vc) v3 sk) => nowH hx gk _ w3
      obtain ⟨bb, hbb⟩ : ∃ bb, decide (((sk.lzQ a : Nat) : Int) = 0 ∨ ((sk.lzQ a : Nat) : Int) ∈ nums sk.pn) = bb := ⟨_, rfl⟩
      have M3 : ∀ x, HeapIn x H P b v0 v1 (.slice (some ⟨gr, 0, none⟩) n vc) v3 sk → Calls Try.prog 58 #[.pointer (some ⟨H, 0, none⟩), .int .i64 (sk.lzQ a : Nat)] x fun e w' => e = .returned (.bool bb) ∧ Below x.heap.size x w' := fun x hx => by
        rw [← hbb]
        exact may_any hx gk.sound (sk.lzQ a : Nat)
      have HBB := Lib.hid hbb
      clear hbb
      have hser := gk.ser a (.inl hak.1)
      have hsel := gk.sel
      have M4 : ∀ x, ArenaAt 76 x P b sk.l → Calls Try.prog 23 #[.pointer (some ⟨P, 0, none⟩), .int .i64 a] x fun e x' => e = .returned (.tuple #[.int .i64 ((sk.l.getD (a + 2) 0).toNat : Int), .int .i64 0]) ∧ Below x.heap.size x x' := fun x hx => by
        have := serial_at a x hx o (by omega)
        rw [show ((sk.l.getD (a + 2) 0).toNat : Int) = sk.l.getD (a + 2) 0 from by omega]
        exact this
      have hlv : sk.lzV a ≤ 131072 := gk.pn_le (lzV_in sk a)
      have M5 : ∀ x, ArenaAt 76 x P b sk.l → Calls Try.prog 53 #[.pointer (some ⟨P, 0, none⟩), .int .i64 a, .int .i64 0, .int .i64 (sk.lzV a : Nat)] x fun e x' => e = .returned (.int .i64 0) ∧ ArenaAt 76 x' P b (sk.loose1 a).l ∧ Chg (· = b) x x' := fun x hx => setPtr_at a 0 _ x hx o (by omega) hlv
      have eV : sk.lzV a = if sk.lzQ a = 0 ∨ sk.lzQ a ∈ sk.pn then sk.lzQ a else 0 := rfl
      have eT : sk.lost1 a = if sk.lzQ a = 0 ∨ sk.lzQ a ∈ sk.pn then [] else [(sk.l.getD (a + 2) 0).toNat] := rfl
      have eQ : fwd sk.l (sk.l.getD (a + 3) 0).toNat = sk.lzQ a := rfl
      rw [eQ] at M2
      clear w1 w2 w3 w4 ob o hal hlen hz1 hbd hser hsel hak eQ
      generalize sk.lzQ a = q at *
      generalize sk.lzV a = vv at *
      generalize (sk.l.getD (a + 3) 0).toNat = pp at *
      generalize (sk.l.getD (a + 2) 0).toNat = ser at *
      have b0 : (0 : Int) ≤ (k : Int) := by omega
      have b1 : (k : Int) < (n : Int) := by omega
      have d0 : wr.cell? ⟨H, 0, none⟩ = some (.pointer (some ⟨P, 0, none⟩)) := hi.blk.cell 0
      have hcw := hc.size
      go_wp2_with fail
      refine (M1 _ hi.ar).mono ?_
      rintro e y1 ⟨rfl, hb1⟩
      replace hi := hi.on hb1
      replace hrow := hrow.chg (S := fun _ => False) (Chg.of_below hb1 (Nat.le_refl _)) fun _ _ h => h
      replace hc := hc.trans (Chg.of_below hb1 (Nat.le_refl _))
      clear hb1 M1 d0 c0 hcw
      go_wp2_with fail
      refine (M2 _ hi).mono ?_
      rintro e y2 ⟨rfl, hb1⟩
      replace hi := hi.on hb1
      replace hrow := hrow.chg (S := fun _ => False) (Chg.of_below hb1 (Nat.le_refl _)) fun _ _ h => h
      replace hc := hc.trans (Chg.of_below hb1 (Nat.le_refl _))
      clear hb1 M2
      have M3' := M3 _ hi
      clear M3
      go_wp2_with fail
      refine M3'.mono ?_
      rintro e y3 ⟨rfl, hb1⟩
      replace hi := hi.on hb1
      replace hrow := hrow.chg (S := fun _ => False) (Chg.of_below hb1 (Nat.le_refl _)) fun _ _ h => h
      replace hc := hc.trans (Chg.of_below hb1 (Nat.le_refl _))
      clear hb1 M3'
      have d0 : y3.cell? ⟨H, 0, none⟩ = some (.pointer (some ⟨P, 0, none⟩)) := hi.blk.cell 0
      have hcw := hc.size
      by_cases hq : q = 0 ∨ q ∈ sk.pn
      · obtain rfl : bb = true := by rw [← HBB.out]; exact decide_eq_true (hq.imp (fun e => by omega) mem_nums.2)
        rw [if_pos hq] at eV eT
        have EV := Lib.hid eV
        have ET := Lib.hid eT
        have M5' := M5 _ hi.ar
        rw [eV] at M5'
        clear eV eT M5
        go_wp2_with fail
        refine M5'.mono ?_
        rintro e y4 ⟨rfl, hA, hc4⟩
        have hi4 := hi.put hA hc4
        have hr4 := hrow.chg hc4 fun g e e' => by subst e'; exact hrow.ne hi.ar.row (by decide) e
        have hc5 := hc.trans hc4
        clear hA hc4 M5' M4
        go_wp2
        go_roundw
        case rel => exact ⟨k + 1, by omega, by go_num, by rw [ES.out, ET.out, List.append_nil]; exact hr4, hlow, by rw [EL.out]; exact hi4, hc5⟩
        case measure => simp [intOf]; omega
      · obtain rfl : bb = false := by rw [← HBB.out]; exact decide_eq_false fun e => hq (e.imp (fun e => by omega) mem_nums.1)
        rw [if_neg hq] at eV eT
        have ET := Lib.hid eT
        have M5' : ∀ x, ArenaAt 76 x P b sk.l → Calls Try.prog 53 #[.pointer (some ⟨P, 0, none⟩), .int .i64 a, .int .i64 0, .int .i64 0] x fun e x' => e = .returned (.int .i64 0) ∧ ArenaAt 76 x' P b (sk.loose1 a).l ∧ Chg (· = b) x x' := fun x hx => by
          have := M5 x hx
          rw [eV] at this
          exact this
        clear eV eT M5
        go_wp2_with fail
        refine (M4 _ hi.ar).mono ?_
        rintro e y4 ⟨rfl, hb1⟩
        replace hi := hi.on hb1
        replace hrow := hrow.chg (S := fun _ => False) (Chg.of_below hb1 (Nat.le_refl _)) fun _ _ h => h
        replace hc := hc.trans (Chg.of_below hb1 (Nat.le_refl _))
        clear hb1 M4 d0 hcw
        have hcw := hc.size
        have hba := (Below.refl _ y4).alloc (Nat.le_refl _) (.cells #[.int .i64 ser] 3)
        have hia := hi.on hba
        have hra := hrow.chg (S := fun _ => False) (Chg.of_below hba (Nat.le_refl _)) fun _ _ h => h
        have hca := hc.trans (Chg.of_below hba (Nat.le_refl _))
        have hcl := (BlkIs.new y4 #[.int .i64 ser] 3).cell 0
        have hza : w.heap.size ≤ (y4.alloc (.cells #[.int .i64 ser] 3)).heap.size := hca.size
        have hnf : ∀ k, u3.ownBlock = some k → ¬ Foot H P b v0 v1 (.slice (some ⟨gr, 0, none⟩) n vc) v3 k := fun k e hf => by
          have := hlow.out k e
          have := hfl k hf
          omega
        go_wp2_with (first
          | (at_builtin; refine wpList_push rfl _ _ rfl u3 lk rfl hra (by omega) y4.heap.size ser rfl hcl ?_; intro v' w' r3 hgr hat hsl
             have hgc := Chg.of_grown (S := fun k => some k = u3.ownBlock) hgr fun _ e => e
             have hi5 := hia.chg hgc fun k hk e => hnf k e.symm hk
             have d5 : w'.cell? ⟨H, 0, none⟩ = some (.pointer (some ⟨P, 0, none⟩)) := hi5.blk.cell 0
             have hc5 := hca.step hgc fun k e => .inr (hlow.out k e.symm)
             have hl5 : Hid (∀ g, v'.ownBlock = some g → w.heap.size ≤ g) := Lib.hid fun g e => hat.elim (fun h => hlow.out g (by rw [← h]; exact e)) fun h => by
               rw [h] at e; injection e with e; omega)
          | (refine (M5' _ hi5.ar).mono ?_
             rintro e y6 ⟨rfl, hA, hc6⟩
             have hi6 := hi5.put hA hc6
             have hr6 := r3.chg hc6 fun g e e' => by subst e'; exact r3.ne hi5.ar.row (by decide) e
             have hc7 := hc5.trans hc6))
        go_roundw
        case rel => exact ⟨k + 1, by omega, by go_num, by rw [ES.out, ET.out]; exact hr6, hl5, by rw [EL.out]; exact hi6, hc7⟩
        case measure => simp [intOf]; omega
    · obtain rfl : k = n := by omega
      rw [List.take_of_length_le (by rw [Hn.out]; omega)] at hrow hi
      go_wp2
      go_ret
      exact ⟨_, rfl, hrow, hlow.out, hi, hc⟩
end

end Go.Proofs.Ytoohnnkhklifdaa

namespace Go.Proofs.Ytoohnnkhklifdaa
open Go.ChangeShapes Go.WideShapes Go.ChangeAt Go.RowKit

set_option linter.unusedSimpArgs false
set_option linter.unusedVariables false

theorem Okw.lists {s : Hp} (h : Okw s) (wk' fi' : List Nat) (h1 : ∀ a ∈ wk', (a ∈ s.pn ∨ a ∈ s.pk) ∧ hw (hdW s.l (fwd s.l a)) = true) (h2 : ∀ x ∈ s.pn, hw (hdW s.l x) = true → ∃ a ∈ wk', fwd s.l a = x) (h3 : ∀ a ∈ fi', a ∈ s.pn ∨ a ∈ s.pk) (h4 : wk'.length ≤ s.wk.length) (h5 : fi'.length ≤ s.fi.length) : Okw { s with wk := wk', fi := fi' } :=
  ⟨h.u01, h.z0, h.z1, h.len, h.zero, h.k0, h.k1, h.room, h.sum, h.owe, h.inn, h.ink, h.srn, h.srk, h.fst, h.nxt, h.stop, h.sel, h.ser, h.ptr, h.blk, h.scn, h1, h2, h3, Nat.le_trans h4 h.wkl, Nat.le_trans h5 h.fil⟩
theorem mem_keptL {s : Hp} {l : List Nat} {a : Nat} : a ∈ keptL s l ↔ (∃ b ∈ l, fwd s.l b = a) ∧ a ∈ s.pn := by
  unfold keptL
  rw [List.mem_filter, List.mem_map, decide_eq_true_iff]
/-- Behind both splits. -/
def Hp.kept (s : Hp) : Hp := { s with wk := keptL s s.wk, fi := keptL s s.fi }
theorem Okw.keptW {s : Hp} (h : Okw s) : Okw { s with wk := keptL s s.wk } := by
  refine h.lists (keptL s s.wk) s.fi (fun a ha => ?_) (fun x hx hwk => ?_) h.fin (keptL_len s s.wk) (Nat.le_refl _)
  · obtain ⟨⟨b, hb, e⟩, hp⟩ := mem_keptL.1 ha
    refine ⟨.inl hp, ?_⟩
    rw [((h.inn a hp).2.1).fwd, ← e]
    exact (h.wks b hb).2
  · obtain ⟨b, hb, e⟩ := h.wka x hx hwk
    exact ⟨x, mem_keptL.2 ⟨⟨b, hb, e⟩, hx⟩, ((h.inn x hx).2.1).fwd⟩
theorem Okw.kept {s : Hp} (h : Okw s) : Okw s.kept := by
  refine h.keptW.lists (keptL s s.wk) (keptL s s.fi) h.keptW.wks h.keptW.wka (fun a ha => .inl (mem_keptL.1 ha).2) (Nat.le_refl _) (keptL_len s s.fi)
theorem Okw.kept_wk {s : Hp} (h : Okw s) : ∀ a ∈ s.kept.wk, WkAt s.kept a := fun a ha => by
  obtain ⟨⟨b, hb, e⟩, hp⟩ := mem_keptL.1 (show a ∈ keptL s s.wk from ha)
  exact ⟨hp, by show hw (hdW s.l a) = true; rw [← e]; exact (h.wks b hb).2⟩
theorem Okw.inOk_wk {s : Hp} (h : Okw s) : ∀ a ∈ s.wk, InOk s a := fun a ha => .inr (h.wks a ha).1
theorem Okw.inOk_fi {s : Hp} (h : Okw s) : ∀ a ∈ s.fi, InOk s a := fun a ha => .inr (h.fin a ha)
def Hp.drop (s : Hp) : Hp := { s.kept.looseL s.kept.wk with mv := false, pk := [], tk := s.bk, ow := 0 }

section
variable {w x : World} {H P b : Nat} {v0 v1 v2 v3 : Value} {s : Hp} {K : Nat → Prop}
/-- One row has become another one, which is its own or new. -/
theorem HeapIn.newRow {u0 u1 u2 u3 : Value} {s' : Hp} (h : HeapIn w H P b v0 v1 v2 v3 s) (i : Nat) (hi : i < 4) (hl : s'.l = s.l) (hu : ∀ j, j < 4 → j ≠ i → vsel u0 u1 u2 u3 j = vsel v0 v1 v2 v3 j) (hrow : ∀ j, j < 4 → j ≠ i → s'.rows j = s.rows j)
    (hb : BlkIs x H (hpC P (s'.base 0) s'.z (s'.top 0) (s'.base 1) (s'.top 1) u0 u1 s'.u s'.mv s'.ow s'.sc s'.se u2 u3) 53) (hc : Chg (· = H) w x)
    (hr : RowIs x (vsel u0 u1 u2 u3 i) (s'.rows i)) (hat : ∀ g, (vsel u0 u1 u2 u3 i).ownBlock = some g → w.heap.size ≤ g) : HeapIn x H P b u0 u1 u2 u3 s' := by
  refine heapIn_of hb ?_ (fun j hj => ?_) fun j hj k hk hjk g e e' => ?_
  · rw [hl]
    exact h.ar.chg hc (fun e => ne_of_types h.ar.head h.blk (by decide) e) (fun e => ne_of_types h.ar.row h.blk (by decide) e)
  · by_cases e : j = i
    · subst e; exact hr
    · rw [hu j hj e, hrow j hj e]
      exact (h.row j hj).chg hc fun g eg e' => by subst e'; exact (h.row j hj).ne h.blk (by decide) eg
  · by_cases ej : j = i
    · subst ej
      rw [hu k hk fun e => hjk e.symm] at e'
      have := (h.row k hk).lt e'
      have := hat g e
      omega
    · rw [hu j hj ej] at e
      by_cases ek : k = i
      · subst ek
        have := (h.row j hj).lt e
        have := hat g e'
        omega
      · rw [hu k hk ek] at e'
        exact h.far j hj k hk hjk g e e'

theorem dropH_no (h : HeapAt w K H s) (g : Sound s) (hm : s.mv = false ∨ s.sc ≠ s.tn) :
    Calls Try.prog 14 #[.pointer (some ⟨H, 0, none⟩)] w fun e w' => e = .returned (.tuple #[.slice none 0 0, .bool false]) ∧ Below w.heap.size w w' := by
  obtain ⟨P, b, v0, v1, v2, v3, h, hF⟩ := h
  have M := scanned_any h g
  have c10 : w.cell? ⟨H, 10, none⟩ = some (.bool s.mv) := h.blk.cell 10
  clear h hF g
  by_cases e : s.mv = true
  · rw [e] at c10
    rw [decide_eq_false (hm.resolve_left fun e' => absurd (e.symm.trans e') (by decide))] at M
    clear hm e
    go_enter Try.func14, Try.ntmps14
    go_wp2_with fail
    refine M.mono ?_
    rintro e x ⟨rfl, hb⟩
    go_wp2
    go_ret2
    exact ⟨rfl, hb⟩
  · have e0 : s.mv = false := by cases h : s.mv <;> simp_all
    rw [e0] at c10
    clear hm e e0 M
    go_enter Try.func14, Try.ntmps14
    go_wp2
    go_ret2
    exact ⟨rfl, Below.refl _ _⟩

set_option maxRecDepth 100000 in
set_option maxHeartbeats 4000000 in
theorem dropH_yes (h : HeapIn w H P b v0 v1 v2 v3 s) (hF : ∀ k, Foot H P b v0 v1 v2 v3 k → K k) (g : Okw s) (hm : s.mv = true) (hsc : s.sc = s.tn) :
    Calls Try.prog 14 #[.pointer (some ⟨H, 0, none⟩)] w fun e w' => ∃ lv, e = .returned (.tuple #[lv, .bool true]) ∧ ReadsAs .i64 w' lv (nums (s.kept.lostL s.kept.wk)) ∧ Went w K H s.drop w' := by
  have M1 := scanned_any h g.sound
  rw [decide_eq_true hsc] at M1
  have c10 : w.cell? ⟨H, 10, none⟩ = some (.bool true) := by rw [← hm]; exact h.blk.cell 10
  have hwl : s.wk.length ≤ 1100000000000 := by have := g.wkl; have := g.sel; omega
  have hfl : s.fi.length ≤ 1100000000000 := by have := g.fil; have := g.sel; omega
  go_enter Try.func14, Try.ntmps14
  go_wp2_with fail
  refine M1.mono ?_
  rintro e x ⟨rfl, hb⟩
  have hx := h.on hb
  have hcx : Chg (· = H) w x := Chg.of_below hb (Nat.le_refl _)
  have c14 : x.cell? ⟨H, 14, none⟩ = some v2 := hx.blk.cell 14
  have M2 := splitH hx g v2 s.wk hx.r2.reads hwl g.inOk_wk
  clear M1 c10 hb
  go_wp2_with fail
  refine M2.mono ?_
  rintro e y ⟨kv, lv, rfl, hT, hb⟩
  have hkv : ∀ g, kv.ownBlock = some g → x.heap.size ≤ g := hT.vb
  have r1 := hT.r
  obtain ⟨ka, kc, rfl⟩ := own_slice r1
  have hky := (hx.on hb).blk
  have hly := hky.lt
  have f14 := hky.free 14
  have c14 : y.cell? ⟨H, 14, none⟩ = some v2 := hky.cell 14
  have hcs := (Chg.of_below (S := (· = H)) hb (Nat.le_refl _)).setCell (p := ⟨H, 14, none⟩) (.inl rfl) (.slice ka (keptL s s.wk).length kc)
  have h2 : HeapIn (y.setCell ⟨H, 14, none⟩ (.slice ka (keptL s s.wk).length kc)) H P b v0 v1 (.slice ka (keptL s s.wk).length kc) v3 { s with wk := keptL s s.wk } :=
    hx.newRow 2 (by omega) rfl (four (fun _ => rfl) (fun _ => rfl) (fun h => absurd rfl h) (fun _ => rfl)) (four (fun _ => rfl) (fun _ => rfl) (fun h => absurd rfl h) (fun _ => rfl)) (hky.set 14 _) hcs
      (r1.chg (S := (· = H)) ((Chg.refl (· = H) y).setCell (p := ⟨H, 14, none⟩) (.inl rfl) _) fun g e e' => by subst e'; exact r1.ne hky (by decide) e) hkv
  have hc2 := hcx.trans hcs
  go_upto_region 4 with fail
  generalize hW : y.setCell ⟨H, 14, none⟩ (.slice ka (keptL s s.wk).length kc) = y1 at *
  have HK2 : Hid (∀ k, (Value.slice ka (keptL s s.wk).length kc).ownBlock = some k → w.heap.size ≤ k) := Lib.hid fun k e => Nat.le_trans hcx.size (hkv k e)
  clear hW hcs hky f14 c14 r1 hkv hT hb hx hcx hly M2
  have g1 := g.keptW
  have c15 : y1.cell? ⟨H, 15, none⟩ = some v3 := h2.blk.cell 15
  have M3 := splitH h2 g1 v3 s.fi h2.r3.reads hfl g1.inOk_fi
  go_wp2_with fail
  refine M3.mono ?_
  rintro e z ⟨kv, lv2, rfl, hT, hb⟩
  have hkv : ∀ g, kv.ownBlock = some g → y1.heap.size ≤ g := hT.vb
  have r1 : RowIs z kv (keptL s s.fi) := hT.r
  obtain ⟨kb, kd, rfl⟩ := own_slice r1
  have hky := (h2.on hb).blk
  have hly := hky.lt
  have f15 := hky.free 15
  have c15 : z.cell? ⟨H, 15, none⟩ = some v3 := hky.cell 15
  have hcs := (Chg.of_below (S := (· = H)) hb (Nat.le_refl _)).setCell (p := ⟨H, 15, none⟩) (.inl rfl) (.slice kb (keptL s s.fi).length kd)
  have h3 : HeapIn (z.setCell ⟨H, 15, none⟩ (.slice kb (keptL s s.fi).length kd)) H P b v0 v1 (.slice ka (keptL s s.wk).length kc) (.slice kb (keptL s s.fi).length kd) s.kept :=
    h2.newRow 3 (by omega) rfl (four (fun _ => rfl) (fun _ => rfl) (fun _ => rfl) (fun h => absurd rfl h)) (four (fun _ => rfl) (fun _ => rfl) (fun _ => rfl) (fun h => absurd rfl h)) (hky.set 15 _) hcs
      (r1.chg (S := (· = H)) ((Chg.refl (· = H) z).setCell (p := ⟨H, 15, none⟩) (.inl rfl) _) fun g e e' => by subst e'; exact r1.ne hky (by decide) e) hkv
  have hc3 := hc2.trans hcs
  go_upto_region 5 with fail
  generalize hW : z.setCell ⟨H, 15, none⟩ (.slice kb (keptL s s.fi).length kd) = y2 at *
  have HK3 : Hid (∀ k, (Value.slice kb (keptL s s.fi).length kd).ownBlock = some k → w.heap.size ≤ k) := Lib.hid fun k e => Nat.le_trans hc2.size (hkv k e)
  clear hW hcs hky f15 c15 r1 hkv hT hb h2 hc2 hly M3
  have M4 := loosenH h3 g.kept g.kept_wk
  go_wp2_with fail
  refine M4.mono ?_
  rintro e z ⟨lv, rfl, hrl, hlow, h5, hcl⟩
  have hc5 : Chg (fun k => k = H ∨ k = b) w z := (hc3.mono fun k e => .inl e).trans (hcl.mono fun k e => .inr e)
  have g3 := (g.kept.looseL _ g.kept_wk).1
  have es3 := looseL_eq s.kept s.kept.wk
  clear M4 h3 hc3 hcl
  obtain ⟨k2, ek2⟩ : ∃ k, Value.slice ka (keptL s s.wk).length kc = k := ⟨_, rfl⟩
  obtain ⟨k3, ek3⟩ : ∃ k, Value.slice kb (keptL s s.fi).length kd = k := ⟨_, rfl⟩
  rw [ek2, ek3] at h5
  have hown2 : ∀ k, k2.ownBlock = some k → w.heap.size ≤ k := fun k e => by rw [← ek2] at e; exact HK2.out k e
  have hown3 : ∀ k, k3.ownBlock = some k → w.heap.size ≤ k := fun k e => by rw [← ek3] at e; exact HK3.out k e
  clear ek2 ek3
  have hd : s.drop = { s.kept.looseL s.kept.wk with mv := false, pk := [], tk := s.bk, ow := 0 } := rfl
  obtain ⟨s3, hs3⟩ : ∃ s3, s.kept.looseL s.kept.wk = s3 := ⟨_, rfl⟩
  rw [hs3] at h5 g3 es3 hd
  have hu3 : s3.u = s.u := by rw [es3]; rfl
  have hz3 : s3.z = s.z := by rw [es3]; rfl
  have htk : s3.tk = s.tk := by rw [es3]; rfl
  have Hd := Lib.hid hd
  clear hd hs3 es3
  rcases g.u01 with hu | hu
  · have hb3 : s3.base 1 = s.base 1 := by unfold Hp.base; rw [hz3]
    have htk3 : ({ s3 with mv := false } : Hp).top 1 = s3.tk := by unfold Hp.top; rw [if_neg (by show ¬ 1 = s3.u; rw [hu3, hu]; decide)]
    have hSp : SpOk (s.base 1) s3.z s3.tk := by
      have := g.k0; have := g.k1; have := g.z1; have := g.bases
      have hbk : s.bk = s.base 1 := by unfold Hp.bk; rw [hu]
      rw [hz3, htk, ← hbk]
      exact ⟨by omega, by omega, by omega, by omega⟩
    have HB3 := Lib.hid hb3
    have HT3 := Lib.hid htk3
    have HU3 := Lib.hid hu3
    have HZ3 := Lib.hid hz3
    have HTK := Lib.hid htk
    clear hb3 htk3 hu3 hz3 htk
    have M5 : Calls Try.prog 25 #[.pointer (some ⟨H, 0, none⟩)] z fun e w' => e = .returned (.int .i64 1) ∧ Below z.heap.size z w' := by
      have M := old_any h5 g3.u01
      rw [HU3.out, hu] at M
      exact M
    go_wp2_with fail
    refine M5.mono ?_
    rintro e z1 ⟨rfl, hb⟩
    have h6 := h5.on hb
    have hr6 := hrl.chg (S := fun _ => False) (Chg.of_below hb (Nat.le_refl _)) fun _ _ h => h
    have hc6 := hc5.trans (Chg.of_below hb (Nat.le_refl _))
    clear M5 hb h5 hrl hc5
    have hl6 := h6.blk.lt
    have f10 := h6.blk.free 10
    have d10 : z1.cell? ⟨H, 10, none⟩ = some (.bool s3.mv) := h6.blk.cell 10
    go_upto_region 8 with fail
    have hcs7 := (Chg.refl (· = H) z1).setCell (p := ⟨H, 10, none⟩) (.inl rfl) (.bool false)
    have h7 : HeapIn (z1.setCell ⟨H, 10, none⟩ (.bool false)) H P b v0 v1 k2 k3 { s3 with mv := false } := h6.cells hcs7 rfl (four rfl rfl rfl rfl) (h6.blk.set 10 _)
    have hr7 := hr6.chg hcs7 fun g e e' => by subst e'; exact hr6.ne h6.blk (by decide) e
    have hc7 := hc6.trans (hcs7.mono fun k e => .inl e)
    clear h6 hr6 hc6 hcs7 f10 d10
    generalize z1.setCell ⟨H, 10, none⟩ (.bool false) = y1 at *
    have ME := empty_ok (s.base 1) s3.z s3.tk hSp
    have h7d : HeapIn y1.drew H P b v0 v1 k2 k3 { s3 with mv := false } := h7.on (Below.refl _ y1).drew
    have e0 : y1.cell? ⟨H, 4, none⟩ = some (.int .i64 (s.base 1)) := by
      have := h7.blk.cell 4
      rw [← HB3.out]; exact this
    have e1 : y1.cell? ⟨H, 5, none⟩ = some (.int .i64 s3.z) := h7.blk.cell 5
    have e2 : y1.cell? ⟨H, 6, none⟩ = some (.int .i64 s3.tk) := by
      have := h7.blk.cell 6
      rw [← HT3.out]; exact this
    have hr7d : RowIs y1.drew lv (s.kept.lostL s.kept.wk) := hr7
    have hc7d := hc7.drew
    refine wp_region_noPanic ?_
    refine wp_region_held_drew (S := fun _ => True) (by kernel_rfl) trivial (fun hS => ?_)
    first
    | (refine wpAnyH_take (i := 0) (v := ?_) rfl (by kernel_rfl) (by kernel_rfl) (by kernel_rfl) (fun _ _ _ h => h) (Or.inl ⟨by rfl, ?_⟩) hS ?_; rotate_left; (· (intro y hy; (try dsimp only at hy); go_simp; try with_reducible rfl)); try simp only [Act.put, List.setIfInBounds_toArray, List.set_cons_zero, List.set_cons_succ, List.getElem_toArray, List.getElem_cons_zero, List.getElem_cons_succ])
    | (refine wpAnyH_take (i := 0) (v := undef) rfl (by kernel_rfl) (by kernel_rfl) (by kernel_rfl) (fun _ _ _ h => h) (Or.inr ⟨by rfl, rfl⟩) hS ?_; try simp only [Act.put, List.setIfInBounds_toArray, List.set_cons_zero, List.set_cons_succ, List.getElem_toArray, List.getElem_cons_zero, List.getElem_cons_succ])
    first
    | (refine wpAnyH_take (i := 1) (v := ?_) rfl (by kernel_rfl) (by kernel_rfl) (by kernel_rfl) (fun _ _ _ h => h) (Or.inl ⟨by rfl, ?_⟩) hS ?_; rotate_left; (· (intro y hy; (try dsimp only at hy); go_simp; try with_reducible rfl)); try simp only [Act.put, List.setIfInBounds_toArray, List.set_cons_zero, List.set_cons_succ, List.getElem_toArray, List.getElem_cons_zero, List.getElem_cons_succ])
    | (refine wpAnyH_take (i := 1) (v := undef) rfl (by kernel_rfl) (by kernel_rfl) (by kernel_rfl) (fun _ _ _ h => h) (Or.inr ⟨by rfl, rfl⟩) hS ?_; try simp only [Act.put, List.setIfInBounds_toArray, List.set_cons_zero, List.set_cons_succ, List.getElem_toArray, List.getElem_cons_zero, List.getElem_cons_succ])
    first
    | (refine wpAnyH_take (i := 2) (v := ?_) rfl (by kernel_rfl) (by kernel_rfl) (by kernel_rfl) (fun _ _ _ h => h) (Or.inl ⟨by rfl, ?_⟩) hS ?_; rotate_left; (· (intro y hy; (try dsimp only at hy); go_simp; try with_reducible rfl)); try simp only [Act.put, List.setIfInBounds_toArray, List.set_cons_zero, List.set_cons_succ, List.getElem_toArray, List.getElem_cons_zero, List.getElem_cons_succ])
    | (refine wpAnyH_take (i := 2) (v := undef) rfl (by kernel_rfl) (by kernel_rfl) (by kernel_rfl) (fun _ _ _ h => h) (Or.inr ⟨by rfl, rfl⟩) hS ?_; try simp only [Act.put, List.setIfInBounds_toArray, List.set_cons_zero, List.set_cons_succ, List.getElem_toArray, List.getElem_cons_zero, List.getElem_cons_succ])
    first
    | (refine wpAnyH_take (i := 3) (v := ?_) rfl (by kernel_rfl) (by kernel_rfl) (by kernel_rfl) (fun _ _ _ h => h) (Or.inl ⟨by rfl, ?_⟩) hS ?_; rotate_left; (· (intro y hy; (try dsimp only at hy); go_simp; try with_reducible rfl)); try simp only [Act.put, List.setIfInBounds_toArray, List.set_cons_zero, List.set_cons_succ, List.getElem_toArray, List.getElem_cons_zero, List.getElem_cons_succ])
    | (refine wpAnyH_take (i := 3) (v := undef) rfl (by kernel_rfl) (by kernel_rfl) (by kernel_rfl) (fun _ _ _ h => h) (Or.inr ⟨by rfl, rfl⟩) hS ?_; try simp only [Act.put, List.setIfInBounds_toArray, List.set_cons_zero, List.set_cons_succ, List.getElem_toArray, List.getElem_cons_zero, List.getElem_cons_succ])
    first
    | (refine wpAnyH_take (i := 4) (v := ?_) rfl (by kernel_rfl) (by kernel_rfl) (by kernel_rfl) (fun _ _ _ h => h) (Or.inl ⟨by rfl, ?_⟩) hS ?_; rotate_left; (· (intro y hy; (try dsimp only at hy); go_simp; try with_reducible rfl)); try simp only [Act.put, List.setIfInBounds_toArray, List.set_cons_zero, List.set_cons_succ, List.getElem_toArray, List.getElem_cons_zero, List.getElem_cons_succ])
    | (refine wpAnyH_take (i := 4) (v := undef) rfl (by kernel_rfl) (by kernel_rfl) (by kernel_rfl) (fun _ _ _ h => h) (Or.inr ⟨by rfl, rfl⟩) hS ?_; try simp only [Act.put, List.setIfInBounds_toArray, List.set_cons_zero, List.set_cons_succ, List.getElem_toArray, List.getElem_cons_zero, List.getElem_cons_succ])
    first
    | (refine wpAnyH_take (i := 5) (v := ?_) rfl (by kernel_rfl) (by kernel_rfl) (by kernel_rfl) (fun _ _ _ h => h) (Or.inl ⟨by rfl, ?_⟩) hS ?_; rotate_left; (· (intro y hy; (try dsimp only at hy); go_simp; try with_reducible rfl)); try simp only [Act.put, List.setIfInBounds_toArray, List.set_cons_zero, List.set_cons_succ, List.getElem_toArray, List.getElem_cons_zero, List.getElem_cons_succ])
    | (refine wpAnyH_take (i := 5) (v := undef) rfl (by kernel_rfl) (by kernel_rfl) (by kernel_rfl) (fun _ _ _ h => h) (Or.inr ⟨by rfl, rfl⟩) hS ?_; try simp only [Act.put, List.setIfInBounds_toArray, List.set_cons_zero, List.set_cons_succ, List.getElem_toArray, List.getElem_cons_zero, List.getElem_cons_succ])
    first
    | (refine wpAnyH_take (i := 6) (v := ?_) rfl (by kernel_rfl) (by kernel_rfl) (by kernel_rfl) (fun _ _ _ h => h) (Or.inl ⟨by rfl, ?_⟩) hS ?_; rotate_left; (· (intro y hy; (try dsimp only at hy); go_simp; try with_reducible rfl)); try simp only [Act.put, List.setIfInBounds_toArray, List.set_cons_zero, List.set_cons_succ, List.getElem_toArray, List.getElem_cons_zero, List.getElem_cons_succ])
    | (refine wpAnyH_take (i := 6) (v := undef) rfl (by kernel_rfl) (by kernel_rfl) (by kernel_rfl) (fun _ _ _ h => h) (Or.inr ⟨by rfl, rfl⟩) hS ?_; try simp only [Act.put, List.setIfInBounds_toArray, List.set_cons_zero, List.set_cons_succ, List.getElem_toArray, List.getElem_cons_zero, List.getElem_cons_succ])
    first
    | (refine wpAnyH_take (i := 9) (v := ?_) rfl (by kernel_rfl) (by kernel_rfl) (by kernel_rfl) (fun _ _ _ h => h) (Or.inl ⟨by rfl, ?_⟩) hS ?_; rotate_left; (· (intro y hy; (try dsimp only at hy); go_simp; try with_reducible rfl)); try simp only [Act.put, List.setIfInBounds_toArray, List.set_cons_zero, List.set_cons_succ, List.getElem_toArray, List.getElem_cons_zero, List.getElem_cons_succ])
    | (refine wpAnyH_take (i := 9) (v := undef) rfl (by kernel_rfl) (by kernel_rfl) (by kernel_rfl) (fun _ _ _ h => h) (Or.inr ⟨by rfl, rfl⟩) hS ?_; try simp only [Act.put, List.setIfInBounds_toArray, List.set_cons_zero, List.set_cons_succ, List.getElem_toArray, List.getElem_cons_zero, List.getElem_cons_succ])
    first
    | (refine wpAnyH_take (i := 10) (v := ?_) rfl (by kernel_rfl) (by kernel_rfl) (by kernel_rfl) (fun _ _ _ h => h) (Or.inl ⟨by rfl, ?_⟩) hS ?_; rotate_left; (· (intro y hy; (try dsimp only at hy); go_simp; try with_reducible rfl)); try simp only [Act.put, List.setIfInBounds_toArray, List.set_cons_zero, List.set_cons_succ, List.getElem_toArray, List.getElem_cons_zero, List.getElem_cons_succ])
    | (refine wpAnyH_take (i := 10) (v := undef) rfl (by kernel_rfl) (by kernel_rfl) (by kernel_rfl) (fun _ _ _ h => h) (Or.inr ⟨by rfl, rfl⟩) hS ?_; try simp only [Act.put, List.setIfInBounds_toArray, List.set_cons_zero, List.set_cons_succ, List.getElem_toArray, List.getElem_cons_zero, List.getElem_cons_succ])
    refine wpAnyH_ready (rs := [7]) (by kernel_rfl) (by simp) ?_
    refine AllReadyH.cons (o := _) rfl (fun K hK => ?_) AllReadyH.nil
    go_simp
    refine hK.out _ _ (trivial) (fun hS => ?_)
    clear hK K
    try simp only [Act.put, List.setIfInBounds_toArray, List.set_cons_zero, List.set_cons_succ]
    refine wpAnyH_ready (rs := [8]) (by kernel_rfl) (by simp) ?_
    refine AllReadyH.cons (o := _) rfl (fun K hK => ?_) AllReadyH.nil
    go_simp
    refine (ME _).mono ?_
    rintro e y2 ⟨rfl, hb⟩
    have h8 := h7d.on hb
    have hr8 := hr7d.chg (S := fun _ => False) (Chg.of_below hb (Nat.le_refl _)) fun _ _ h => h
    have hc8 := hc7d.trans (Chg.of_below hb (Nat.le_refl _))
    refine hK.out _ _ (trivial) (fun hS => ?_)
    clear hK K
    try simp only [Act.put, List.setIfInBounds_toArray, List.set_cons_zero, List.set_cons_succ]
    clear hb ME h7d hr7d hc7d h7 hr7 hc7 e0 e1 e2
    first
    | (refine wpAnyH_take (i := 11) (v := ?_) rfl (by kernel_rfl) (by kernel_rfl) (by kernel_rfl) (fun _ _ _ h => h) (Or.inl ⟨by rfl, ?_⟩) hS ?_; rotate_left; (· (intro y hy; (try dsimp only at hy); go_simp; try with_reducible rfl)); try simp only [Act.put, List.setIfInBounds_toArray, List.set_cons_zero, List.set_cons_succ, List.getElem_toArray, List.getElem_cons_zero, List.getElem_cons_succ])
    | (refine wpAnyH_take (i := 11) (v := undef) rfl (by kernel_rfl) (by kernel_rfl) (by kernel_rfl) (fun _ _ _ h => h) (Or.inr ⟨by rfl, rfl⟩) hS ?_; try simp only [Act.put, List.setIfInBounds_toArray, List.set_cons_zero, List.set_cons_succ, List.getElem_toArray, List.getElem_cons_zero, List.getElem_cons_succ])
    refine wpAnyH_ready (rs := [12]) (by kernel_rfl) (by simp) ?_
    refine AllReadyH.cons (o := _) rfl (fun K hK => ?_) AllReadyH.nil
    have e0 : y2.cell? ⟨H, 4, none⟩ = some (.int .i64 (s.base 1)) := by
      have := h8.blk.cell 4
      rw [← HB3.out]; exact this
    have e1 : y2.cell? ⟨H, 5, none⟩ = some (.int .i64 s3.z) := h8.blk.cell 5
    have e2 : y2.cell? ⟨H, 6, none⟩ = some (.int .i64 s3.tk) := by
      have := h8.blk.cell 6
      rw [← HT3.out]; exact this
    have f0 := h8.blk.free 4
    have f1 := h8.blk.free 5
    have f2 := h8.blk.free 6
    have f3 := h8.blk.free 8
    have f4 := h8.blk.free 11
    have d3 : ∃ u, y2.cell? ⟨H, 8, none⟩ = some u := ⟨_, h8.blk.cell 8⟩
    obtain ⟨uu, d3⟩ := d3
    have d4 : y2.cell? ⟨H, 11, none⟩ = some (.int .i64 s3.ow) := h8.blk.cell 11
    have hl8 := h8.blk.lt
    go_simp
    refine hK.out _ _ (trivial) (fun hS => ?_)
    clear hK K
    try simp only [Act.put, List.setIfInBounds_toArray, List.set_cons_zero, List.set_cons_succ]
    refine wpAnyH_done (by kernel_rfl) ?_ _
    refine NoPanic.normal ?_
    go_wp2
    go_ret2
    have hcs := (((((Chg.refl (· = H) y2).setCell (p := ⟨H, 4, none⟩) (.inl rfl) (.int .i64 (s.base 1))).setCell (p := ⟨H, 5, none⟩) (.inl rfl) (.int .i64 s3.z)).setCell (p := ⟨H, 6, none⟩) (.inl rfl) (.int .i64 (s.base 1))).setCell (p := ⟨H, 8, none⟩) (.inl rfl) (.slice none 0 0)).setCell (p := ⟨H, 11, none⟩) (.inl rfl) (.int .i64 0)
    have hr9 := hr8.chg hcs fun g e e' => by subst e'; exact hr8.ne h8.blk (by decide) e
    have hc9 := hc8.trans (hcs.mono fun k e => .inl e)
    have t0 : ({ s3 with mv := false, pk := [], tk := s.bk, ow := 0 } : Hp).top 0 = ({ s3 with mv := false } : Hp).top 0 := by
      show (if 0 = s3.u then s3.tn else s.bk) = (if 0 = s3.u then s3.tn else s3.tk)
      rw [HU3.out, hu]; rfl
    have t1 : ({ s3 with mv := false, pk := [], tk := s.bk, ow := 0 } : Hp).top 1 = s.base 1 := by
      show (if 1 = s3.u then s3.tn else s.bk) = s.base 1
      rw [HU3.out, hu, if_neg (by decide)]
      unfold Hp.bk; rw [hu]
    have t2 : ({ s3 with mv := false, pk := [], tk := s.bk, ow := 0 } : Hp).base 1 = s.base 1 := HB3.out
    have hfin : HeapIn (((((y2.setCell ⟨H, 4, none⟩ (.int .i64 (s.base 1))).setCell ⟨H, 5, none⟩ (.int .i64 s3.z)).setCell ⟨H, 6, none⟩ (.int .i64 (s.base 1))).setCell ⟨H, 8, none⟩ (.slice none 0 0)).setCell ⟨H, 11, none⟩ (.int .i64 0)) H P b v0 (.slice none 0 0) k2 k3 { s3 with mv := false, pk := [], tk := s.bk, ow := 0 } := by
      refine h8.newRow (u0 := v0) (u1 := (.slice none 0 0)) (u2 := k2) (u3 := k3) 1 (by omega) rfl (four (fun _ => rfl) (fun h => absurd rfl h) (fun _ => rfl) (fun _ => rfl)) (four (fun _ => ?_) (fun h => absurd rfl h) (fun _ => rfl) (fun _ => rfl)) ?_ hcs ?_ (fun g e => absurd e (by simp [vsel, Value.ownBlock]))
      · show (if 0 = s3.u then s3.pn else ([] : List Nat)) = (if 0 = s3.u then s3.pn else s3.pk)
        rw [HU3.out, hu]; rfl
      · rw [t0, t1, t2]
        exact ((((h8.blk.set 4 _).set 5 _).set 6 _).set 8 _).set 11 _
      · have e : ({ s3 with mv := false, pk := [], tk := s.bk, ow := 0 } : Hp).rows 1 = [] := by
          show (if 1 = s3.u then s3.pn else ([] : List Nat)) = []
          rw [HU3.out, hu]; rfl
        rw [e]
        exact World.ownsRow_nil _ _ _ _
    refine ⟨lv, rfl, hr9.reads, ?_⟩
    rw [Hd.out]
    have hown : ∀ i, i < 4 → ∀ k, (vsel v0 (.slice none 0 0) k2 k3 i).ownBlock = some k → K k ∨ w.heap.size ≤ k := four (fun k e => .inl (hF k (foot_row (by omega : 0 < 4) e))) (fun k e => absurd e (by simp [vsel, Value.ownBlock])) (fun k e => .inr (hown2 k e)) (fun k e => .inr (hown3 k e))
    have hlv : ∀ k, Foot H P b v0 (.slice none 0 0) k2 k3 k → K k ∨ w.heap.size ≤ k := fun k hk => by
      rcases foot_of hk with e | e | e | ⟨i, hi, e⟩
      · exact .inl (hF k (.inl e))
      · exact .inl (hF k (.inr (.inl e)))
      · exact .inl (hF k (.inr (.inr (.inl e))))
      · exact hown i hi k e
    exact ⟨fun k => K k ∨ w.heap.size ≤ k, ⟨P, b, _, _, k2, k3, hfin, hlv⟩, fun k hk => hk, hc9.mono fun k e => e.elim (fun e => hF k (.inl e)) fun e => hF k (.inr (.inr (.inl e)))⟩
  · have hb3 : s3.base 0 = s.base 0 := by unfold Hp.base; rw [hz3]
    have htk3 : ({ s3 with mv := false } : Hp).top 0 = s3.tk := by unfold Hp.top; rw [if_neg (by show ¬ 0 = s3.u; rw [hu3, hu]; decide)]
    have hSp : SpOk (s.base 0) s3.z s3.tk := by
      have := g.k0; have := g.k1; have := g.z1; have := g.bases
      have hbk : s.bk = s.base 0 := by unfold Hp.bk; rw [hu]
      rw [hz3, htk, ← hbk]
      exact ⟨by omega, by omega, by omega, by omega⟩
    have HB3 := Lib.hid hb3
    have HT3 := Lib.hid htk3
    have HU3 := Lib.hid hu3
    have HZ3 := Lib.hid hz3
    have HTK := Lib.hid htk
    clear hb3 htk3 hu3 hz3 htk
    have M5 : Calls Try.prog 25 #[.pointer (some ⟨H, 0, none⟩)] z fun e w' => e = .returned (.int .i64 0) ∧ Below z.heap.size z w' := by
      have M := old_any h5 g3.u01
      rw [HU3.out, hu] at M
      exact M
    go_wp2_with fail
    refine M5.mono ?_
    rintro e z1 ⟨rfl, hb⟩
    have h6 := h5.on hb
    have hr6 := hrl.chg (S := fun _ => False) (Chg.of_below hb (Nat.le_refl _)) fun _ _ h => h
    have hc6 := hc5.trans (Chg.of_below hb (Nat.le_refl _))
    clear M5 hb h5 hrl hc5
    have hl6 := h6.blk.lt
    have f10 := h6.blk.free 10
    have d10 : z1.cell? ⟨H, 10, none⟩ = some (.bool s3.mv) := h6.blk.cell 10
    go_upto_region 8 with fail
    have hcs7 := (Chg.refl (· = H) z1).setCell (p := ⟨H, 10, none⟩) (.inl rfl) (.bool false)
    have h7 : HeapIn (z1.setCell ⟨H, 10, none⟩ (.bool false)) H P b v0 v1 k2 k3 { s3 with mv := false } := h6.cells hcs7 rfl (four rfl rfl rfl rfl) (h6.blk.set 10 _)
    have hr7 := hr6.chg hcs7 fun g e e' => by subst e'; exact hr6.ne h6.blk (by decide) e
    have hc7 := hc6.trans (hcs7.mono fun k e => .inl e)
    clear h6 hr6 hc6 hcs7 f10 d10
    generalize z1.setCell ⟨H, 10, none⟩ (.bool false) = y1 at *
    have ME := empty_ok (s.base 0) s3.z s3.tk hSp
    have h7d : HeapIn y1.drew H P b v0 v1 k2 k3 { s3 with mv := false } := h7.on (Below.refl _ y1).drew
    have e0 : y1.cell? ⟨H, 1, none⟩ = some (.int .i64 (s.base 0)) := by
      have := h7.blk.cell 1
      rw [← HB3.out]; exact this
    have e1 : y1.cell? ⟨H, 2, none⟩ = some (.int .i64 s3.z) := h7.blk.cell 2
    have e2 : y1.cell? ⟨H, 3, none⟩ = some (.int .i64 s3.tk) := by
      have := h7.blk.cell 3
      rw [← HT3.out]; exact this
    have hr7d : RowIs y1.drew lv (s.kept.lostL s.kept.wk) := hr7
    have hc7d := hc7.drew
    refine wp_region_noPanic ?_
    refine wp_region_held_drew (S := fun _ => True) (by kernel_rfl) trivial (fun hS => ?_)
    first
    | (refine wpAnyH_take (i := 0) (v := ?_) rfl (by kernel_rfl) (by kernel_rfl) (by kernel_rfl) (fun _ _ _ h => h) (Or.inl ⟨by rfl, ?_⟩) hS ?_; rotate_left; (· (intro y hy; (try dsimp only at hy); go_simp; try with_reducible rfl)); try simp only [Act.put, List.setIfInBounds_toArray, List.set_cons_zero, List.set_cons_succ, List.getElem_toArray, List.getElem_cons_zero, List.getElem_cons_succ])
    | (refine wpAnyH_take (i := 0) (v := undef) rfl (by kernel_rfl) (by kernel_rfl) (by kernel_rfl) (fun _ _ _ h => h) (Or.inr ⟨by rfl, rfl⟩) hS ?_; try simp only [Act.put, List.setIfInBounds_toArray, List.set_cons_zero, List.set_cons_succ, List.getElem_toArray, List.getElem_cons_zero, List.getElem_cons_succ])
    first
    | (refine wpAnyH_take (i := 1) (v := ?_) rfl (by kernel_rfl) (by kernel_rfl) (by kernel_rfl) (fun _ _ _ h => h) (Or.inl ⟨by rfl, ?_⟩) hS ?_; rotate_left; (· (intro y hy; (try dsimp only at hy); go_simp; try with_reducible rfl)); try simp only [Act.put, List.setIfInBounds_toArray, List.set_cons_zero, List.set_cons_succ, List.getElem_toArray, List.getElem_cons_zero, List.getElem_cons_succ])
    | (refine wpAnyH_take (i := 1) (v := undef) rfl (by kernel_rfl) (by kernel_rfl) (by kernel_rfl) (fun _ _ _ h => h) (Or.inr ⟨by rfl, rfl⟩) hS ?_; try simp only [Act.put, List.setIfInBounds_toArray, List.set_cons_zero, List.set_cons_succ, List.getElem_toArray, List.getElem_cons_zero, List.getElem_cons_succ])
    first
    | (refine wpAnyH_take (i := 2) (v := ?_) rfl (by kernel_rfl) (by kernel_rfl) (by kernel_rfl) (fun _ _ _ h => h) (Or.inl ⟨by rfl, ?_⟩) hS ?_; rotate_left; (· (intro y hy; (try dsimp only at hy); go_simp; try with_reducible rfl)); try simp only [Act.put, List.setIfInBounds_toArray, List.set_cons_zero, List.set_cons_succ, List.getElem_toArray, List.getElem_cons_zero, List.getElem_cons_succ])
    | (refine wpAnyH_take (i := 2) (v := undef) rfl (by kernel_rfl) (by kernel_rfl) (by kernel_rfl) (fun _ _ _ h => h) (Or.inr ⟨by rfl, rfl⟩) hS ?_; try simp only [Act.put, List.setIfInBounds_toArray, List.set_cons_zero, List.set_cons_succ, List.getElem_toArray, List.getElem_cons_zero, List.getElem_cons_succ])
    first
    | (refine wpAnyH_take (i := 3) (v := ?_) rfl (by kernel_rfl) (by kernel_rfl) (by kernel_rfl) (fun _ _ _ h => h) (Or.inl ⟨by rfl, ?_⟩) hS ?_; rotate_left; (· (intro y hy; (try dsimp only at hy); go_simp; try with_reducible rfl)); try simp only [Act.put, List.setIfInBounds_toArray, List.set_cons_zero, List.set_cons_succ, List.getElem_toArray, List.getElem_cons_zero, List.getElem_cons_succ])
    | (refine wpAnyH_take (i := 3) (v := undef) rfl (by kernel_rfl) (by kernel_rfl) (by kernel_rfl) (fun _ _ _ h => h) (Or.inr ⟨by rfl, rfl⟩) hS ?_; try simp only [Act.put, List.setIfInBounds_toArray, List.set_cons_zero, List.set_cons_succ, List.getElem_toArray, List.getElem_cons_zero, List.getElem_cons_succ])
    first
    | (refine wpAnyH_take (i := 4) (v := ?_) rfl (by kernel_rfl) (by kernel_rfl) (by kernel_rfl) (fun _ _ _ h => h) (Or.inl ⟨by rfl, ?_⟩) hS ?_; rotate_left; (· (intro y hy; (try dsimp only at hy); go_simp; try with_reducible rfl)); try simp only [Act.put, List.setIfInBounds_toArray, List.set_cons_zero, List.set_cons_succ, List.getElem_toArray, List.getElem_cons_zero, List.getElem_cons_succ])
    | (refine wpAnyH_take (i := 4) (v := undef) rfl (by kernel_rfl) (by kernel_rfl) (by kernel_rfl) (fun _ _ _ h => h) (Or.inr ⟨by rfl, rfl⟩) hS ?_; try simp only [Act.put, List.setIfInBounds_toArray, List.set_cons_zero, List.set_cons_succ, List.getElem_toArray, List.getElem_cons_zero, List.getElem_cons_succ])
    first
    | (refine wpAnyH_take (i := 5) (v := ?_) rfl (by kernel_rfl) (by kernel_rfl) (by kernel_rfl) (fun _ _ _ h => h) (Or.inl ⟨by rfl, ?_⟩) hS ?_; rotate_left; (· (intro y hy; (try dsimp only at hy); go_simp; try with_reducible rfl)); try simp only [Act.put, List.setIfInBounds_toArray, List.set_cons_zero, List.set_cons_succ, List.getElem_toArray, List.getElem_cons_zero, List.getElem_cons_succ])
    | (refine wpAnyH_take (i := 5) (v := undef) rfl (by kernel_rfl) (by kernel_rfl) (by kernel_rfl) (fun _ _ _ h => h) (Or.inr ⟨by rfl, rfl⟩) hS ?_; try simp only [Act.put, List.setIfInBounds_toArray, List.set_cons_zero, List.set_cons_succ, List.getElem_toArray, List.getElem_cons_zero, List.getElem_cons_succ])
    first
    | (refine wpAnyH_take (i := 6) (v := ?_) rfl (by kernel_rfl) (by kernel_rfl) (by kernel_rfl) (fun _ _ _ h => h) (Or.inl ⟨by rfl, ?_⟩) hS ?_; rotate_left; (· (intro y hy; (try dsimp only at hy); go_simp; try with_reducible rfl)); try simp only [Act.put, List.setIfInBounds_toArray, List.set_cons_zero, List.set_cons_succ, List.getElem_toArray, List.getElem_cons_zero, List.getElem_cons_succ])
    | (refine wpAnyH_take (i := 6) (v := undef) rfl (by kernel_rfl) (by kernel_rfl) (by kernel_rfl) (fun _ _ _ h => h) (Or.inr ⟨by rfl, rfl⟩) hS ?_; try simp only [Act.put, List.setIfInBounds_toArray, List.set_cons_zero, List.set_cons_succ, List.getElem_toArray, List.getElem_cons_zero, List.getElem_cons_succ])
    first
    | (refine wpAnyH_take (i := 9) (v := ?_) rfl (by kernel_rfl) (by kernel_rfl) (by kernel_rfl) (fun _ _ _ h => h) (Or.inl ⟨by rfl, ?_⟩) hS ?_; rotate_left; (· (intro y hy; (try dsimp only at hy); go_simp; try with_reducible rfl)); try simp only [Act.put, List.setIfInBounds_toArray, List.set_cons_zero, List.set_cons_succ, List.getElem_toArray, List.getElem_cons_zero, List.getElem_cons_succ])
    | (refine wpAnyH_take (i := 9) (v := undef) rfl (by kernel_rfl) (by kernel_rfl) (by kernel_rfl) (fun _ _ _ h => h) (Or.inr ⟨by rfl, rfl⟩) hS ?_; try simp only [Act.put, List.setIfInBounds_toArray, List.set_cons_zero, List.set_cons_succ, List.getElem_toArray, List.getElem_cons_zero, List.getElem_cons_succ])
    first
    | (refine wpAnyH_take (i := 10) (v := ?_) rfl (by kernel_rfl) (by kernel_rfl) (by kernel_rfl) (fun _ _ _ h => h) (Or.inl ⟨by rfl, ?_⟩) hS ?_; rotate_left; (· (intro y hy; (try dsimp only at hy); go_simp; try with_reducible rfl)); try simp only [Act.put, List.setIfInBounds_toArray, List.set_cons_zero, List.set_cons_succ, List.getElem_toArray, List.getElem_cons_zero, List.getElem_cons_succ])
    | (refine wpAnyH_take (i := 10) (v := undef) rfl (by kernel_rfl) (by kernel_rfl) (by kernel_rfl) (fun _ _ _ h => h) (Or.inr ⟨by rfl, rfl⟩) hS ?_; try simp only [Act.put, List.setIfInBounds_toArray, List.set_cons_zero, List.set_cons_succ, List.getElem_toArray, List.getElem_cons_zero, List.getElem_cons_succ])
    refine wpAnyH_ready (rs := [7]) (by kernel_rfl) (by simp) ?_
    refine AllReadyH.cons (o := _) rfl (fun K hK => ?_) AllReadyH.nil
    go_simp
    refine hK.out _ _ (trivial) (fun hS => ?_)
    clear hK K
    try simp only [Act.put, List.setIfInBounds_toArray, List.set_cons_zero, List.set_cons_succ]
    refine wpAnyH_ready (rs := [8]) (by kernel_rfl) (by simp) ?_
    refine AllReadyH.cons (o := _) rfl (fun K hK => ?_) AllReadyH.nil
    go_simp
    refine (ME _).mono ?_
    rintro e y2 ⟨rfl, hb⟩
    have h8 := h7d.on hb
    have hr8 := hr7d.chg (S := fun _ => False) (Chg.of_below hb (Nat.le_refl _)) fun _ _ h => h
    have hc8 := hc7d.trans (Chg.of_below hb (Nat.le_refl _))
    refine hK.out _ _ (trivial) (fun hS => ?_)
    clear hK K
    try simp only [Act.put, List.setIfInBounds_toArray, List.set_cons_zero, List.set_cons_succ]
    clear hb ME h7d hr7d hc7d h7 hr7 hc7 e0 e1 e2
    first
    | (refine wpAnyH_take (i := 11) (v := ?_) rfl (by kernel_rfl) (by kernel_rfl) (by kernel_rfl) (fun _ _ _ h => h) (Or.inl ⟨by rfl, ?_⟩) hS ?_; rotate_left; (· (intro y hy; (try dsimp only at hy); go_simp; try with_reducible rfl)); try simp only [Act.put, List.setIfInBounds_toArray, List.set_cons_zero, List.set_cons_succ, List.getElem_toArray, List.getElem_cons_zero, List.getElem_cons_succ])
    | (refine wpAnyH_take (i := 11) (v := undef) rfl (by kernel_rfl) (by kernel_rfl) (by kernel_rfl) (fun _ _ _ h => h) (Or.inr ⟨by rfl, rfl⟩) hS ?_; try simp only [Act.put, List.setIfInBounds_toArray, List.set_cons_zero, List.set_cons_succ, List.getElem_toArray, List.getElem_cons_zero, List.getElem_cons_succ])
    refine wpAnyH_ready (rs := [12]) (by kernel_rfl) (by simp) ?_
    refine AllReadyH.cons (o := _) rfl (fun K hK => ?_) AllReadyH.nil
    have e0 : y2.cell? ⟨H, 1, none⟩ = some (.int .i64 (s.base 0)) := by
      have := h8.blk.cell 1
      rw [← HB3.out]; exact this
    have e1 : y2.cell? ⟨H, 2, none⟩ = some (.int .i64 s3.z) := h8.blk.cell 2
    have e2 : y2.cell? ⟨H, 3, none⟩ = some (.int .i64 s3.tk) := by
      have := h8.blk.cell 3
      rw [← HT3.out]; exact this
    have f0 := h8.blk.free 1
    have f1 := h8.blk.free 2
    have f2 := h8.blk.free 3
    have f3 := h8.blk.free 7
    have f4 := h8.blk.free 11
    have d3 : ∃ u, y2.cell? ⟨H, 7, none⟩ = some u := ⟨_, h8.blk.cell 7⟩
    obtain ⟨uu, d3⟩ := d3
    have d4 : y2.cell? ⟨H, 11, none⟩ = some (.int .i64 s3.ow) := h8.blk.cell 11
    have hl8 := h8.blk.lt
    go_simp
    refine hK.out _ _ (trivial) (fun hS => ?_)
    clear hK K
    try simp only [Act.put, List.setIfInBounds_toArray, List.set_cons_zero, List.set_cons_succ]
    refine wpAnyH_done (by kernel_rfl) ?_ _
    refine NoPanic.normal ?_
    go_wp2
    go_ret2
    have hcs := (((((Chg.refl (· = H) y2).setCell (p := ⟨H, 1, none⟩) (.inl rfl) (.int .i64 (s.base 0))).setCell (p := ⟨H, 2, none⟩) (.inl rfl) (.int .i64 s3.z)).setCell (p := ⟨H, 3, none⟩) (.inl rfl) (.int .i64 (s.base 0))).setCell (p := ⟨H, 7, none⟩) (.inl rfl) (.slice none 0 0)).setCell (p := ⟨H, 11, none⟩) (.inl rfl) (.int .i64 0)
    have hr9 := hr8.chg hcs fun g e e' => by subst e'; exact hr8.ne h8.blk (by decide) e
    have hc9 := hc8.trans (hcs.mono fun k e => .inl e)
    have t0 : ({ s3 with mv := false, pk := [], tk := s.bk, ow := 0 } : Hp).top 1 = ({ s3 with mv := false } : Hp).top 1 := by
      show (if 1 = s3.u then s3.tn else s.bk) = (if 1 = s3.u then s3.tn else s3.tk)
      rw [HU3.out, hu]; rfl
    have t1 : ({ s3 with mv := false, pk := [], tk := s.bk, ow := 0 } : Hp).top 0 = s.base 0 := by
      show (if 0 = s3.u then s3.tn else s.bk) = s.base 0
      rw [HU3.out, hu, if_neg (by decide)]
      unfold Hp.bk; rw [hu]
    have t2 : ({ s3 with mv := false, pk := [], tk := s.bk, ow := 0 } : Hp).base 0 = s.base 0 := HB3.out
    have hfin : HeapIn (((((y2.setCell ⟨H, 1, none⟩ (.int .i64 (s.base 0))).setCell ⟨H, 2, none⟩ (.int .i64 s3.z)).setCell ⟨H, 3, none⟩ (.int .i64 (s.base 0))).setCell ⟨H, 7, none⟩ (.slice none 0 0)).setCell ⟨H, 11, none⟩ (.int .i64 0)) H P b (.slice none 0 0) v1 k2 k3 { s3 with mv := false, pk := [], tk := s.bk, ow := 0 } := by
      refine h8.newRow (u0 := (.slice none 0 0)) (u1 := v1) (u2 := k2) (u3 := k3) 0 (by omega) rfl (four (fun h => absurd rfl h) (fun _ => rfl) (fun _ => rfl) (fun _ => rfl)) (four (fun h => absurd rfl h) (fun _ => ?_) (fun _ => rfl) (fun _ => rfl)) ?_ hcs ?_ (fun g e => absurd e (by simp [vsel, Value.ownBlock]))
      · show (if 1 = s3.u then s3.pn else ([] : List Nat)) = (if 1 = s3.u then s3.pn else s3.pk)
        rw [HU3.out, hu]; rfl
      · rw [t0, t1, t2]
        exact ((((h8.blk.set 1 _).set 2 _).set 3 _).set 7 _).set 11 _
      · have e : ({ s3 with mv := false, pk := [], tk := s.bk, ow := 0 } : Hp).rows 0 = [] := by
          show (if 0 = s3.u then s3.pn else ([] : List Nat)) = []
          rw [HU3.out, hu]; rfl
        rw [e]
        exact World.ownsRow_nil _ _ _ _
    refine ⟨lv, rfl, hr9.reads, ?_⟩
    rw [Hd.out]
    have hown : ∀ i, i < 4 → ∀ k, (vsel (.slice none 0 0) v1 k2 k3 i).ownBlock = some k → K k ∨ w.heap.size ≤ k := four (fun k e => absurd e (by simp [vsel, Value.ownBlock])) (fun k e => .inl (hF k (foot_row (by omega : 1 < 4) e))) (fun k e => .inr (hown2 k e)) (fun k e => .inr (hown3 k e))
    have hlv : ∀ k, Foot H P b (.slice none 0 0) v1 k2 k3 k → K k ∨ w.heap.size ≤ k := fun k hk => by
      rcases foot_of hk with e | e | e | ⟨i, hi, e⟩
      · exact .inl (hF k (.inl e))
      · exact .inl (hF k (.inr (.inl e)))
      · exact .inl (hF k (.inr (.inr (.inl e))))
      · exact hown i hi k e
    exact ⟨fun k => K k ∨ w.heap.size ≤ k, ⟨P, b, _, _, k2, k3, hfin, hlv⟩, fun k hk => hk, hc9.mono fun k e => e.elim (fun e => hF k (.inl e)) fun e => hF k (.inr (.inr (.inl e)))⟩
end

end Go.Proofs.Ytoohnnkhklifdaa

namespace Go.Proofs.Ytoohnnkhklifdaa
open Go.ChangeShapes Go.WideShapes Go.ChangeAt Go.RowKit

set_option linter.unusedSimpArgs false
set_option linter.unusedVariables false

theorem Ok.flip {s : Hp} (h : Ok s) (hm : s.mv = false) : Ok s.flip := by
  obtain ⟨hpk, htk⟩ := h.stop hm
  have hu := h.u01
  have hbn : s.flip.bn = s.bk := rfl
  have hbk : s.flip.bk = s.bn := by
    show s.base (1 - (1 - s.u)) = s.base s.u
    rw [show 1 - (1 - s.u) = s.u from by omega]
  have hlive : ∀ x, Live s.flip x ↔ x ∈ s.pn := fun x => by
    show (x ∈ s.pk ∨ (x ∈ s.pn ∧ isOb s.l x)) ↔ _
    rw [hpk]
    exact ⟨fun e => e.elim (fun e => by simp at e) fun e => e.1, fun e => .inr ⟨e, (h.inn x e).2.1⟩⟩
  have hnpk : ∀ x, ¬ x ∈ s.flip.pn := fun x e => by
    have e' : x ∈ s.pk := e
    rw [hpk] at e'; simp at e'
  have hb := h.bases
  have hsum := h.sum
  have hr := h.room
  have h0 := h.t0
  refine ⟨⟨by show 1 - s.u = 0 ∨ 1 - s.u = 1; omega, h.z0, h.z1, h.len, h.zero, by rw [hbk]; exact h0, by rw [hbk]; show s.tn ≤ s.bn + s.z; omega, ?_, ?_, ?_, fun x hx => absurd hx (hnpk x), fun x hx => ?_, ?_, ?_, .inl (by rw [hbn]; exact htk), fun x hx => absurd hx (hnpk x), fun e => ?_, h.sel, fun x hx => h.ser x (.inl ((hlive x).1 hx)), fun x hx i hi => ?_, fun _ x hx => absurd hx (hnpk x), fun _ => .inl htk.symm, fun a ha => ?_, fun x hx => absurd hx (hnpk x), fun a ha => ?_, h.wkl, h.fil⟩, fun x hx _ hwx => h.wka x hx hwx⟩
  · rw [hbn]; show s.tk + (s.tn - s.bn) ≤ s.bk + s.z; omega
  · rw [hbn]
    show s.tk = s.bk + (s.pk.map _).sum
    rw [hpk]; simp; exact htk
  · show s.tn - s.bn = (s.pn.map (ows s.l)).sum
    rw [sum_congr (f := ows s.l) (g := szA s.l) fun x hx => if_pos (h.inn x hx).2.1.odd]
    omega
  · obtain ⟨a1, a2, a3⟩ := h.inn x hx
    have := szA_pos (l := s.l) (a := x)
    rw [hbk]
    exact ⟨a1, by show x < s.tn; omega, .inl ⟨a2, a3⟩⟩
  · show s.pk.Pairwise _
    rw [hpk]; exact List.Pairwise.nil
  · exact pairwise_congr h.srn fun x hx y hy e => ⟨by have := szA_pos (l := s.l) (a := x); omega, fun _ => e⟩
  · exact absurd e (by simp [Hp.flip])
  · exact (h.ptr x (.inl ((hlive x).1 hx)) i hi).imp id fun ⟨y, e, hy⟩ => ⟨y, e, hy.elim (fun e => .inr e) fun e => .inl e⟩
  · exact ⟨(h.wks a ha).1.elim (fun e => .inr e) fun e => .inl e, (h.wks a ha).2⟩
  · exact (h.fin a ha).elim (fun e => .inr e) fun e => .inl e

/-- What Scan lays is right. -/
theorem Ok.scan {s : Hp} (h : Ok s) (hm : s.mv = true) (hin : s.sc ∈ s.pn) : Ok s.scan := by
  have g := h.movedL (stP s.l s.sc)
  have hsm := movedL_same s (stP s.l s.sc)
  have hin1 := movedL_pn s (stP s.l s.sc) hin
  have hhd := h.movedL_head (stP s.l s.sc) hin
  have hvs := h.movVL_in (stP s.l s.sc) (h.stP_in (.inl hin))
  have hvl : (s.movVL (stP s.l s.sc)).length = nSt s.l s.sc := by rw [movVL_length, stP_length]
  have hsz : szA (s.movedL (stP s.l s.sc)).l s.sc = szA s.l s.sc := szA_congr hhd
  have hf : hdW (s.movedL (stP s.l s.sc)).l s.sc = hdW s.l s.sc := hdW_congr hhd
  have hsc1 : (s.movedL (stP s.l s.sc)).sc = s.sc := hsm.2.2.2.2.1
  have hm1 : (s.movedL (stP s.l s.sc)).mv = true := hsm.2.1.trans hm
  have hsn : s.scan = { s.movedL (stP s.l s.sc) with l := setP (s.movedL (stP s.l s.sc)).l s.sc (s.movVL (stP s.l s.sc)), sc := s.sc + szA s.l s.sc } := rfl
  rw [hsn]
  have hnst : nSt s.l s.sc = if hw (hdW s.l s.sc) then 0 else hp (hdW s.l s.sc) := rfl
  generalize s.movVL (stP s.l s.sc) = vs at *
  generalize s.movedL (stP s.l s.sc) = s1 at *
  have ob := (g.inn _ hin1).2.1
  have hn := ob.nA_le
  have hnp : nSt s.l s.sc ≤ hp (hdW s1.l s.sc) := by rw [hf, hnst]; split <;> omega
  have hnA : nA s1.l s.sc = 3 + hp (hdW s1.l s.sc) + hd (hdW s1.l s.sc) := rfl
  have key : ∀ x t, Live s1 x → t < nA s1.l x → (setP s1.l s.sc vs).getD (x + t) 0 = if x = s.sc ∧ 3 ≤ t ∧ t < 3 + vs.length then ((vs.getD (t - 3) 0 : Nat) : Int) else s1.l.getD (x + t) 0 := fun x t hx ht => by
    have hox := (g.live_ob hx).nA_le
    rw [setP_at (by omega)]
    by_cases e : x = s.sc
    · subst e
      by_cases e2 : 3 ≤ t ∧ t < 3 + vs.length
      · rw [if_pos (by omega), if_pos ⟨rfl, e2⟩, show s.sc + t - (s.sc + 3) = t - 3 from by omega]
      · rw [if_neg (by omega), if_neg fun e3 => e2 e3.2]
    · rw [if_neg, if_neg fun e3 => e e3.1]
      intro e3
      have := (g.live_apart (.inl hin1) (hx.imp id fun e => e.1) (fun e' => e e'.symm) (t := x + t - s.sc) (by omega)).2 (g.live_ob hx) t ht
      omega
  have hval : ∀ i, i < vs.length → (((vs.getD i 0 : Nat) : Int) = 0 ∨ ∃ y ∈ s1.pn, ((vs.getD i 0 : Nat) : Int) = ((y : Nat) : Int)) := fun i hi => by
    rcases hvs (vs.getD i 0) (by rw [List.getD_eq_getElem?_getD, List.getElem?_eq_getElem hi]; exact List.getElem_mem _) with e | e
    · exact .inl (by rw [e]; rfl)
    · exact .inr ⟨_, e, rfl⟩
  have hheads : ∀ y, y ∈ s1.pn ∨ y ∈ s1.pk → (setP s1.l s.sc vs).getD y 0 = s1.l.getD y 0 := fun y hy => by
    have hyl : y < s1.l.length := hy.elim (fun e => (g.pn_lt e).2.2) fun e => (g.pk_lt e).2
    rw [setP_at hyl, if_neg]
    intro e3
    by_cases e : s.sc = y
    · omega
    · have := (g.live_apart (.inl hin1) hy e (t := y - s.sc) (by omega)).1
      omega
  have hz := g.len
  have hb := g.bases
  refine g.again (g.rewrite _ _ (setP_length ..) ?_ (fun y hy => .inl (hheads y hy)) (fun x hx => ?_) (fun x hx i hi => ?_) (fun _ x hx hlt hwx i hi => ?_) fun _ => ?_) (setP_length ..) fun y hy => .inl (hheads y hy)
  · have := g.z0
    rw [setP_at (by omega), if_neg (by omega)]; exact g.zero
  · have := (g.live_ob hx).nA_le
    rw [key x 2 hx (by omega), if_neg (by omega)]
  · rw [key x (3 + i) hx (by unfold nA; omega)]
    split
    · rename_i e
      have := hval (3 + i - 3) (by omega)
      exact this.imp id fun ⟨y, hy, e⟩ => ⟨y, e, .inl hy⟩
    · exact g.ptr x hx i hi
  · rw [key x (3 + i) (.inl hx) (by unfold nA; omega)]
    split
    · rename_i e
      exact hval (3 + i - 3) (by omega)
    · rename_i e
      have hlt' : x < s.sc ∨ x = s.sc := by
        rcases pairwise_get g.srn hx hin1 with e1 | e1 | e1
        · exact .inr e1
        · have := szA_pos (l := s1.l) (a := x); left; omega
        · rw [hsz] at e1; omega
      rcases hlt' with hl | rfl
      · exact g.blk hm1 x hx (by rw [hsc1]; exact hl) hwx i hi
      · exfalso
        refine e ⟨rfl, by omega, ?_⟩
        rw [hf] at hwx hi
        rw [hvl, hnst, hwx]
        simpa using hi
  · have := g.nxt _ hin1
    rw [hsz] at this
    exact this

/-- What a weak object's word is behind loosen, and that no other word turns. -/
theorem Okw.loose1_word {s : Hp} (g : Okw s) {a : Nat} (ha : WkAt s a) {x t : Nat} (hx : x ∈ s.pn) (ht : t < nA s.l x) : (s.loose1 a).l.getD (x + t) 0 = if x = a ∧ t = 3 then ((s.lzV a : Nat) : Int) else s.l.getD (x + t) 0 := by
  have h1 := g.wk_one ha
  have hob := (g.inn x hx).2.1
  have hn := hob.nA_le
  show (s.l.set (a + 3) _).getD (x + t) 0 = _
  rw [set_at' (by omega)]
  by_cases e : x = a
  · subst e
    by_cases e2 : t = 3
    · rw [if_pos (by omega), if_pos ⟨rfl, e2⟩]
    · rw [if_neg (by omega), if_neg fun e3 => e2 e3.2]
  · rw [if_neg, if_neg fun e3 => e e3.1]
    have := (g.live_apart (t := 3) (.inl ha.1) (.inl hx) (fun e' => e e'.symm) (by omega)).2 hob t ht
    omega
theorem Okw.lzV_next {s : Hp} (g : Okw s) {a x : Nat} (ha : WkAt s a) (hx : WkAt s x) : (s.loose1 a).lzV x = s.lzV x := by
  have h1 := g.wk_one hx
  have hpn : (s.loose1 a).pn = s.pn := rfl
  have hw := g.loose1_word ha hx.1 (t := 3) (by omega)
  have hhd := fun y hy => g.loose1_head (x := y) ha hy
  have hfw : ∀ p, InOk s p → fwd (s.loose1 a).l p = fwd s.l p := fun p hp => by
    rcases hp with rfl | e | e
    · rw [g.fwd_zero, (g.loose1 ha).fwd_zero]
    · exact fwd_congr (hhd p (.inl e))
    · exact fwd_congr (hhd p (.inr e))
  unfold Hp.lzV Hp.lzQ
  rw [hpn]
  by_cases e : x = a
  · subst e
    rw [if_pos ⟨rfl, rfl⟩] at hw
    rw [hw, Int.toNat_natCast]
    have e2 : fwd (s.loose1 x).l (s.lzV x) = s.lzV x := by
      rcases lzV_in s x with e | e
      · rw [e, (g.loose1 ha).fwd_zero]
      · rw [hfw _ (.inr (.inl e)), ((g.inn _ e).2.1).fwd]
    rw [e2, if_pos (lzV_in s x)]
    rfl
  · rw [if_neg fun e3 => e e3.1] at hw
    rw [hw, hfw _ h1.2.2.1]
theorem Okw.looseL_word {s : Hp} (g : Okw s) (ws : List Nat) (hws : ∀ a ∈ ws, WkAt s a) {x t : Nat} (hx : x ∈ s.pn) (ht : t < nA s.l x) : (s.looseL ws).l.getD (x + t) 0 = if x ∈ ws ∧ t = 3 then ((s.lzV x : Nat) : Int) else s.l.getD (x + t) 0 := by
  induction ws generalizing s with
  | nil => rw [if_neg fun e => by simp at e]; rfl
  | cons a ws ih =>
    have h0 := hws a List.mem_cons_self
    have g1 := g.loose1 h0
    have hh := fun y hy => g.loose1_head (x := y) h0 hy
    have hws' : ∀ b ∈ ws, WkAt (s.loose1 a) b := fun b hb => by
      obtain ⟨b1, b2⟩ := hws b (List.mem_cons_of_mem _ hb)
      exact ⟨b1, by rw [hdW_congr (hh b (.inl b1))]; exact b2⟩
    have := ih g1 hws' hx (by rw [nA_congr (hh x (.inl hx))]; exact ht)
    show ((s.loose1 a).looseL ws).l.getD (x + t) 0 = _
    rw [this, g.loose1_word h0 hx ht]
    by_cases e : x ∈ ws ∧ t = 3
    · rw [if_pos e, if_pos ⟨List.mem_cons_of_mem _ e.1, e.2⟩, g.lzV_next h0 (hws x (List.mem_cons_of_mem _ e.1))]
    · rw [if_neg e]
      by_cases e2 : x = a ∧ t = 3
      · rw [if_pos e2, if_pos ⟨by rw [e2.1]; exact List.mem_cons_self, e2.2⟩, e2.1]
      · rw [if_neg e2, if_neg]
        rintro ⟨e3, e4⟩
        rcases List.mem_cons.1 e3 with e3 | e3
        · exact e2 ⟨e3, e4⟩
        · exact e ⟨e3, e4⟩

theorem drop_l (s : Hp) : s.drop.l = (s.kept.looseL s.kept.wk).l := rfl
theorem drop_eq (s : Hp) : s.drop = { s with l := s.drop.l, wk := keptL s s.wk, fi := keptL s s.fi, mv := false, pk := [], tk := s.bk, ow := 0 } := by
  have := looseL_eq s.kept s.kept.wk
  unfold Hp.drop
  rw [this]
  rfl
/-- A word behind Drop. -/
theorem Ok.drop_word {s : Hp} (h : Ok s) {x t : Nat} (hx : x ∈ s.pn) (ht : t < nA s.l x) : s.drop.l.getD (x + t) 0 = if hw (hdW s.l x) = true ∧ t = 3 then ((s.kept.lzV x : Nat) : Int) else s.l.getD (x + t) 0 := by
  have g := h.toOkw.kept
  have e := g.looseL_word s.kept.wk h.toOkw.kept_wk (x := x) (t := t) hx ht
  rw [drop_l, e]
  have hiff : x ∈ s.kept.wk ↔ hw (hdW s.l x) = true := by
    constructor
    · exact fun e => (h.toOkw.kept_wk x e).2
    · intro hwx
      obtain ⟨a, ha, ea⟩ := h.wka x hx hwx
      exact mem_keptL.2 ⟨⟨a, ha, ea⟩, hx⟩
  by_cases e2 : hw (hdW s.l x) = true ∧ t = 3
  · rw [if_pos e2, if_pos ⟨hiff.2 e2.1, e2.2⟩]
  · rw [if_neg e2, if_neg fun e3 => e2 ⟨hiff.1 e3.1, e3.2⟩]
    rfl
theorem Ok.drop_head {s : Hp} (h : Ok s) {x : Nat} (hx : x ∈ s.pn) : s.drop.l.getD x 0 = s.l.getD x 0 := by
  have := ((h.inn x hx).2.1).nA_le
  have e := h.drop_word hx (t := 0) (by omega)
  rw [if_neg (by omega)] at e
  exact e
theorem Ok.drop {s : Hp} (h : Ok s) (hm : s.mv = true) (hsc : s.sc = s.tn) : Ok s.drop := by
  have g := (h.toOkw.kept.looseL s.kept.wk h.toOkw.kept_wk).1
  have hhd := fun x hx => h.drop_head (x := x) hx
  have hlen : s.drop.l.length = s.l.length := by
    have h1 := g.len
    have h2 := h.len
    have h3 : (s.kept.looseL s.kept.wk).z = s.z := by rw [looseL_eq]; rfl
    rw [drop_l, h1, h2, h3]
  have hz : s.drop.l.getD 0 0 = 0 := g.zero
  have hpn : s.drop.pn = s.pn := by rw [drop_eq]
  have hpk : s.drop.pk = [] := rfl
  have hlive : ∀ x, Live s.drop x ↔ x ∈ s.pn := fun x => by
    unfold Live
    rw [hpn, hpk]
    exact ⟨fun e => e.elim id fun e => by simp at e, .inl⟩
  have hsz : ∀ x ∈ s.pn, szA s.drop.l x = szA s.l x := fun x hx => szA_congr (hhd x hx)
  have hpos := h.room
  have hb := h.bases
  have hval : ∀ x ∈ s.pn, ∀ i, i < hp (hdW s.l x) → s.drop.l.getD (x + (3 + i)) 0 = 0 ∨ ∃ y ∈ s.pn, s.drop.l.getD (x + (3 + i)) 0 = ((y : Nat) : Int) := fun x hx i hi => by
    have hob := (h.inn x hx).2.1
    rw [h.drop_word hx (by unfold nA; omega)]
    by_cases hwx : hw (hdW s.l x) = true
    · have h1 := (h.toOkw.wk_one ⟨hx, hwx⟩).1
      rw [if_pos ⟨hwx, by omega⟩]
      rcases lzV_in s.kept x with e | e
      · rw [e]; exact .inl rfl
      · exact .inr ⟨_, e, rfl⟩
    · rw [if_neg fun e => hwx e.1]
      exact h.blk hm x hx (by have := (h.pn_lt hx).2.1; omega) (by simpa using hwx) i hi
  have hser : ∀ x ∈ s.pn, s.drop.l.getD (x + 2) 0 = s.l.getD (x + 2) 0 := fun x hx => by
    have := ((h.inn x hx).2.1).nA_le
    rw [h.drop_word hx (by omega), if_neg (by omega)]
  have hkw : ∀ a, a ∈ keptL s s.wk ↔ a ∈ s.pn ∧ hw (hdW s.l a) = true := fun a => by
    constructor
    · intro ha
      have e := h.toOkw.kept_wk a ha
      exact e
    · rintro ⟨hx, hwx⟩
      obtain ⟨b, hb, eb⟩ := h.wka a hx hwx
      exact mem_keptL.2 ⟨⟨b, hb, eb⟩, hx⟩
  rw [drop_eq]
  generalize s.drop.l = l' at *
  refine ⟨⟨h.u01, h.z0, h.z1, hlen.trans h.len, hz, Nat.le_refl _, Nat.le_add_right _ _, by show s.tn + 0 ≤ s.bn + s.z; omega, ?_, rfl, fun x hx => ?_, fun x hx => by simp at hx, ?_, List.Pairwise.nil, h.fst, fun x hx => ?_, fun _ => ⟨rfl, rfl⟩, h.sel, fun x hx => ?_, fun x hx i hi => ?_, fun e => by simp at e, fun e => by simp at e, fun a ha => ?_, fun x hx hwx => ?_, fun a ha => .inl (mem_keptL.1 ha).2, Nat.le_trans (keptL_len s s.wk) h.wkl, Nat.le_trans (keptL_len s s.fi) h.fil⟩, fun x hx => by simp at hx⟩
  · rw [h.sum]
    exact congrArg _ (sum_congr fun x hx => (hsz x hx).symm)
  · obtain ⟨a1, a2, a3⟩ := h.inn x hx
    exact ⟨a1, (isOb_congr hlen (hhd x hx)).2 a2, by rw [hsz x hx]; exact a3⟩
  · exact pairwise_congr h.srn fun x hx y hy e => by rw [hsz x hx]; exact e
  · rw [hsz x hx]; exact h.nxt x hx
  · have hx' : x ∈ s.pn := hx.elim id fun e => by simp at e
    rw [hser x hx']; exact h.ser x (.inl hx')
  · have hx' : x ∈ s.pn := hx.elim id fun e => by simp at e
    rw [hdW_congr (hhd x hx')] at hi
    exact (hval x hx' i hi).imp id fun ⟨y, hy, e⟩ => ⟨y, e, .inl hy⟩
  · obtain ⟨a1, a2⟩ := (hkw a).1 ha
    refine ⟨.inl a1, ?_⟩
    show hw (hdW l' (fwd l' a)) = true
    rw [fwd_congr (hhd a a1), ((h.inn a a1).2.1).fwd, hdW_congr (hhd a a1)]
    exact a2
  · rw [hdW_congr (hhd x hx)] at hwx
    exact ⟨x, (hkw x).2 ⟨hx, hwx⟩, by show fwd l' x = x; rw [fwd_congr (hhd x hx)]; exact ((h.inn x hx).2.1).fwd⟩

end Go.Proofs.Ytoohnnkhklifdaa

namespace Go.Proofs.Ytoohnnkhklifdaa
open Go.ChangeShapes Go.WideShapes Go.ChangeAt Go.RowKit

set_option linter.unusedSimpArgs false
set_option linter.unusedVariables false

section
variable {w : World} {H P b : Nat} {v0 v1 v2 v3 : Value} {s : Hp} {K : Nat → Prop}
theorem went_join {x y : World} {K1 : Nat → Prop} {s2 : Hp} (hK : ∀ k, K1 k → K k ∨ w.heap.size ≤ k) (hc : Chg K w x) (h : Went x K1 H s2 y) : Went w K H s2 y := by
  obtain ⟨K2, g1, g2, g3⟩ := h
  refine ⟨K2, g1, fun k hk => ?_, hc.step g3 fun k hk => hK k hk⟩
  rcases g2 k hk with e | e
  · exact hK k e
  · exact .inr (Nat.le_trans hc.size e)

theorem serialH_no (h : HeapAt w K H s) (g : Sound s) (a : Int) (ha : a ∉ nums s.pn)  :
    Calls Try.prog 8 #[.pointer (some ⟨H, 0, none⟩), .int .i64 a] w fun e w' => e = .returned (.tuple #[.int .i64 0, .int .i64 70]) ∧ Below w.heap.size w w' := by
  obtain ⟨P, b, v0, v1, v2, v3, h, hF⟩ := h
  have M := here_any h g a
  rw [decide_eq_false ha] at M
  clear h g
  go_enter Try.func8, Try.ntmps8
  go_wp2_with fail
  refine M.mono ?_
  rintro e x ⟨rfl, hb⟩
  go_wp2
  go_ret2
  exact ⟨rfl, hb⟩











theorem serialH_yes (h : HeapIn w H P b v0 v1 v2 v3 s) (g : Sound s) (a : Nat) (ha : a ∈ s.pn) (r e0 : Int)
    (M : ∀ x, ArenaAt 76 x P b s.l → Calls Try.prog 23 #[.pointer (some ⟨P, 0, none⟩), .int .i64 a] x fun e x' => e = .returned (.tuple #[.int .i64 r, .int .i64 e0]) ∧ Below x.heap.size x x') :
    Calls Try.prog 8 #[.pointer (some ⟨H, 0, none⟩), .int .i64 a] w fun e w' => e = .returned (.tuple #[.int .i64 r, .int .i64 e0]) ∧ Below w.heap.size w w' := by
  have M1 := here_any h g a
  rw [decide_eq_true (mem_nums.2 ha)] at M1
  have hh := fun x (hx : Below w.heap.size w x) => h.on hx
  have hc : ∀ x, Below w.heap.size w x → x.cell? ⟨H, 0, none⟩ = some (.pointer (some ⟨P, 0, none⟩)) := fun x hx => (hh x hx).blk.cell 0
  clear h g
  go_enter Try.func8, Try.ntmps8
  go_wp2_with fail
  refine M1.mono ?_
  rintro e x ⟨rfl, hb⟩
  have c0 : x.cell? ⟨H, 0, none⟩ = some (.pointer (some ⟨P, 0, none⟩)) := hc x hb
  go_wp2_with fail
  refine (M _ (hh x hb).ar).mono ?_
  rintro e y ⟨rfl, hb2⟩
  go_wp2
  go_ret2
  exact ⟨rfl, hb.trans (hb2.mono hb.size)⟩





end

end Go.Proofs.Ytoohnnkhklifdaa
