/- Put together: Package heap: taken, laid. Condition: the heap is one; its space has an index of two. Package heap: Moved. Condition: the heap is sound; what is to go has room. Package heap: Moved, at a heap that is right; what it leaves is right. Condition: the heap is right, and the pointer may be. Package mover: SetStrong with as many pointers as there are. Condition: there is an object; each may be a pointer. Some pointers moved one behind the other, plainly. No condition. A heap stays right when words of its objects are set. Plain; no condition. Package heap: now, split. Condition: the heap is right; each place may be asked for. Package heap: loosen. Condition: the heap is right; all weak ones on the list are here. Package heap: Drop. Condition: the heap is right. Package heap: a heap stays right when those to be finalized are told, and when one is marked. No walk. Package heap: turn. Condition: the heap is right; the words are another arena's, with an object at that place, or one that is gone. Package heap: turned. Condition: the heap is right. A heap is right at first; it stays so when an object is laid, and when it flips. Plain; no condition. A heap stays right when it flips, when the next object is scanned, and when the old space is let go of. Plain; no condition. Two heaps that are alike: what lives in the one lies in the other, too, told by a function on places. No walk. Maps from numbers to numbers, and to Bools, told by plain functions: made, looked up, stored into. Plain; no condition. Package graph: rank, add. Conditions: there are objects at all places that are told (Grph). Package graph: reach and Reach over objects that are there (Grph): what one comes to, in its order. -/
import Derived.Test.YtbjmeibcphmgbaaGreatBase1
import Derived.Test.YtbjmeibcphmgbaaGreatRows
import Derived.WalkKit
import Derived.ProofKit
import Derived.Maps.Own
import Derived.Maps.OwnOps
import Derived.Maps.OwnSet
namespace Go.Proofs.YtbjmeibcphmgbaaGreat
open Go.ChangeShapes Go.WideShapes Go.ChangeAt Go.RowKit

set_option linter.unusedSimpArgs false
set_option linter.unusedVariables false

/-- A row has one more. -/
theorem row_push {w : World} {v : Value} {l : List Nat} (h : RowIs w v l) (hn : l.length ≤ 2000000000000) (ty : TypeId) {g : Nat} {a : Nat} (hc : w.cell? ⟨g, 0, none⟩ = some (.int .i64 a)) :
    ∃ v' w', (Builtin.append_ #[36, 36] ty #[v, .slice (some ⟨g, 0, none⟩) 1 1]).run Tryz.prog w = .ok v' w' ∧ RowIs w' v' (l ++ [a]) ∧ w.grownBy w' v.ownBlock ∧ (v'.ownBlock = v.ownBlock ∨ v'.ownBlock = some w.heap.size) ∧ ∃ av c, v' = .slice av (l.length + 1) c := by
  obtain ⟨i0, hi, hz0, hz1, hz2⟩ := info_parts infoInt
  obtain ⟨v', w', hr, h2, h3, _, h5⟩ := run_append_own_at (P := Tryz.prog) w 0 36 ty 3 i0 (.int .i64 0) 1 8 Tryz.underlying36 hi hz0 hz1 hz2 rfl (by decide) v l.length _ h ⟨g, 0, none⟩ 1 1 [.int .i64 a] rfl (fun j u hj => by
    rcases j with _ | j
    · simp at hj; subst hj; exact hc
    · simp at hj) (fun u hu => by simp at hu; subst hu; rfl) (by unfold maxLen; omega) (by omega) (Nat.zero_le _)
  refine ⟨v', w', hr, ?_, h3, h5, own_slice h2⟩
  show w'.ownsRow 0 _ 1 v' (l ++ [a]).length _
  rw [nums_snoc, List.map_append, List.length_append]
  exact h2
theorem step_push {w : World} {ops : Array Oper} {o : Oper} {a : Act} {Q : Exit → Act → World → Prop} {K : Act → World → Prop} {E : Prop} (hg : o.guard = none) (s x : Operand)
    (hop : o.op = .call { callee := .builtin .append, args := #[s, x], argTypes := #[36, 36] }) (v : Value) (l : List Nat) (hs : a.eval s = v) (h : RowIs w v l) (hn : l.length ≤ 2000000000000) (g n : Nat) (hx : a.eval x = .slice (some ⟨g, 0, none⟩) 1 1) (hc : w.cell? ⟨g, 0, none⟩ = some (.int .i64 n))
    (hK : ∀ v' w', RowIs w' v' (l ++ [n]) → w.grownBy w' v.ownBlock → (v'.ownBlock = v.ownBlock ∨ v'.ownBlock = some w.heap.size) → (∃ av c, v' = .slice av (l.length + 1) c) → K (a.put o.dst v') w') :
    if Region.wanted o (yielded ops a.tmps) = true then Oper.wp Tryz.prog o a w K Q else E := by
  rw [if_pos (by simp [Region.wanted, hg])]
  obtain ⟨v', w', hr, h1, h2, h3, h4⟩ := row_push h hn o.type hc
  unfold Oper.wp
  simp [execOp, hop, resolve, invoke, builtin, hs, hx, hr, Result.andThen]
  exact hK v' w' h1 h2 h3 h4
theorem wpList_push {w : World} {ops : Array Oper} {rest : List Oper} {o : Oper} {a : Act} {Q : Exit → Act → World → Prop} (hg : o.guard = none) (s x : Operand)
    (hop : o.op = .call { callee := .builtin .append, args := #[s, x], argTypes := #[36, 36] }) (v : Value) (l : List Nat) (hs : a.eval s = v) (h : RowIs w v l) (hn : l.length ≤ 2000000000000) (g n : Nat) (hx : a.eval x = .slice (some ⟨g, 0, none⟩) 1 1) (hc : w.cell? ⟨g, 0, none⟩ = some (.int .i64 n))
    (hK : ∀ v' w', RowIs w' v' (l ++ [n]) → w.grownBy w' v.ownBlock → (v'.ownBlock = v.ownBlock ∨ v'.ownBlock = some w.heap.size) → (∃ av c, v' = .slice av (l.length + 1) c) → wpList Tryz.prog ops Q rest (a.put o.dst v') w') :
    wpList Tryz.prog ops Q (o :: rest) a w := by
  refine wpList_plain hg fun K' hK' => ?_
  obtain ⟨v', w', hr, h1, h2, h3, h4⟩ := row_push h hn o.type hc
  unfold Oper.wp
  simp [execOp, hop, resolve, invoke, builtin, hs, hx, hr, Result.andThen]
  exact hK' _ _ (hK v' w' h1 h2 h3 h4)

theorem taken_ok (p d : Nat) (wk fn : Bool) (o1 : shB p d wk fn = true) (o2 : p ≤ 8) (o3 : d ≤ 8) (w : World) :
    Calls Tryz.prog 57 #[shV p d wk fn] w fun e w' => e = .returned (.tuple #[.int .i64 (Cls.rd (3 + p + d) : Nat), .bool true]) ∧ Below w.heap.size w w' := by
  have HZ := size_yes p d wk fn o1 o2 o3
  have HR := round_any ((3 + p + d : Nat) : Int) (by omega) (by omega)
  rw [roundN_of (by omega) (by omega), okN_of (by omega) (by omega)] at HR
  have e3 : (3 + (p : Int) + (d : Int)) = ((3 + p + d : Nat) : Int) := by omega
  rw [e3] at HZ
  generalize Cls.rd (3 + p + d) = r at *
  generalize 3 + p + d = n at *
  clear e3
  go_enter Tryz.func57, Tryz.ntmps57
  have hB := (Below.refl w.heap.size w).alloc (Nat.le_refl _) (.cells #[.int .i64 p, .int .i64 d, .bool wk, .bool fn] 45)
  go_wp2_with fail
  refine (HZ _).mono ?_
  rintro e x ⟨rfl, hb⟩
  replace hB := hB.trans (hb.mono hB.size)
  go_wp2_with fail
  refine (HR _).mono ?_
  rintro e y ⟨rfl, hb2⟩
  go_wp2
  go_ret2
  exact ⟨rfl, hB.trans (hb2.mono hB.size)⟩

section
variable {w : World} {H P b : Nat} {v0 v1 v2 v3 : Value} {s : Hp} {K : Nat → Prop}
set_option maxHeartbeats 2000000 in
theorem laid_any (h : HeapIn w H P b v0 v1 v2 v3 s) (hK : ∀ k, Foot H P b v0 v1 v2 v3 k → K k) (hu : s.u = 0 ∨ s.u = 1) (t a : Nat) (hn : s.pn.length ≤ 16384) :
    Calls Tryz.prog 52 #[.pointer (some ⟨H, 0, none⟩), spV s.bn s.z t, .int .i64 a] w fun e w' => e = .returned (.tuple #[]) ∧ Went w K H { s with tn := t, pn := s.pn ++ [a] } w' := by
  obtain ⟨i0, hi, hz0, hz1, hz2⟩ := info_parts infoInt
  have hl := h.blk.lt
  obtain ⟨c0, c1, c2, c3, c4, c5, c6, c7, c8, c9, ca, cb, cc, cd, ce, cf⟩ := BlkIs.facts16 h.blk
  have fr := h.blk.free
  rcases hu with hu | hu
  · have e1 : s.bn = s.base 0 := by unfold Hp.bn; rw [hu]
    have e2 : s.pl 0 = s.pn := by unfold Hp.pl; rw [hu]; rfl
    have r0 := h.r0
    rw [e2] at r0
    rw [hu] at c9
    rw [e1]
    have f1 := fr 1
    have f2 := fr 2
    have f3 := fr 3
    have f7 := fr 7
    generalize hbn : s.base 0 = b0 at *
    go_enter Tryz.func52, Tryz.ntmps52
    go_upto_region 1 with fail
    go_region
    have hk : BlkIs (((((w.setCell ⟨H, 1, none⟩ (.int .i64 b0)).setCell ⟨H, 2, none⟩ (.int .i64 s.z)).setCell ⟨H, 3, none⟩ (.int .i64 t)).alloc (.cells #[.int .i64 b0, .int .i64 s.z, .int .i64 t] 76)).drew) H
        (hpC P (s.base 0) s.z t (s.base 1) (s.top 1) v0 v1 s.u s.mv s.ow s.sc s.se v2 v3) 80 := by
      rw [hbn]
      exact (((h.blk.set 1 (.int .i64 b0)).set 2 (.int .i64 s.z)).set 3 (.int .i64 t)).alloc _
    have hc : Chg (· = H) w (((((w.setCell ⟨H, 1, none⟩ (.int .i64 b0)).setCell ⟨H, 2, none⟩ (.int .i64 s.z)).setCell ⟨H, 3, none⟩ (.int .i64 t)).alloc (.cells #[.int .i64 b0, .int .i64 s.z, .int .i64 t] 76)).drew) :=
      (((((Chg.refl (· = H) w).setCell (p := ⟨H, 1, none⟩) (.inl rfl) _).setCell (p := ⟨H, 2, none⟩) (.inl rfl) _).setCell (p := ⟨H, 3, none⟩) (.inl rfl) _).alloc _).drew
    generalize (((((w.setCell ⟨H, 1, none⟩ (.int .i64 b0)).setCell ⟨H, 2, none⟩ (.int .i64 s.z)).setCell ⟨H, 3, none⟩ (.int .i64 t)).alloc (.cells #[.int .i64 b0, .int .i64 s.z, .int .i64 t] 76)).drew) = x at *
    clear c0 c1 c2 c3 c4 c5 c6 c7 c8 c9 ca cb cc cd ce cf f1 f2 f3 f7 fr
    obtain ⟨c0, c1, c2, c3, c4, c5, c6, c7, c8, c9, ca, cb, cc, cd, ce, cf⟩ := BlkIs.facts16 hk
    have f7 := hk.free 7
    have r1 : RowIs x v0 s.pn := r0.chg hc fun g e e' => by subst e'; exact r0.ne h.blk (by decide) e
    rw [hu] at c9
    go_upto_region 2 with fail
    refine wp_region_noPanic ?_
    refine wp_region_held_drew (S := fun y => y.cell? ⟨H, 9, none⟩ = some (.int .i64 (0 : Nat))) (by kernel_rfl) c9 (fun hS => ?_)
    have hc_ : Cnt 0 := trivial
    iterate 13 ((first | (refine takeC hc_ (v := ?_) rfl (by kernel_rfl) (by kernel_rfl) (by kernel_rfl) (fun _ _ _ h => h) (Or.inl ⟨by rfl, ?_⟩) hS ?_; rotate_left; (· (intro y hy; (try dsimp only at hy); go_simp; try with_reducible rfl))) | refine takeC hc_ (v := undef) rfl (by kernel_rfl) (by kernel_rfl) (by kernel_rfl) (fun _ _ _ h => h) (Or.inr ⟨by rfl, rfl⟩) hS ?_); try simp only [Act.put, List.setIfInBounds_toArray, List.set_cons_zero, List.set_cons_succ, List.getElem_toArray, List.append, List.getElem_cons_zero, List.getElem_cons_succ]; replace hc_ := hc_.next; simp only [Nat.reduceAdd] at hc_)
    clear hc_
    have hc_ : Cnt 14 := trivial
    iterate 1 ((first | (refine takeC hc_ (v := ?_) rfl (by kernel_rfl) (by kernel_rfl) (by kernel_rfl) (fun _ _ _ h => h) (Or.inl ⟨by rfl, ?_⟩) hS ?_; rotate_left; (· (intro y hy; (try dsimp only at hy); go_simp; try with_reducible rfl))) | refine takeC hc_ (v := undef) rfl (by kernel_rfl) (by kernel_rfl) (by kernel_rfl) (fun _ _ _ h => h) (Or.inr ⟨by rfl, rfl⟩) hS ?_); try simp only [Act.put, List.setIfInBounds_toArray, List.set_cons_zero, List.set_cons_succ, List.getElem_toArray, List.append, List.getElem_cons_zero, List.getElem_cons_succ]; replace hc_ := hc_.next; simp only [Nat.reduceAdd] at hc_)
    clear hc_
    have hc_ : Cnt 17 := trivial
    iterate 2 ((first | (refine takeC hc_ (v := ?_) rfl (by kernel_rfl) (by kernel_rfl) (by kernel_rfl) (fun _ _ _ h => h) (Or.inl ⟨by rfl, ?_⟩) hS ?_; rotate_left; (· (intro y hy; (try dsimp only at hy); go_simp; try with_reducible rfl))) | refine takeC hc_ (v := undef) rfl (by kernel_rfl) (by kernel_rfl) (by kernel_rfl) (fun _ _ _ h => h) (Or.inr ⟨by rfl, rfl⟩) hS ?_); try simp only [Act.put, List.setIfInBounds_toArray, List.set_cons_zero, List.set_cons_succ, List.getElem_toArray, List.append, List.getElem_cons_zero, List.getElem_cons_succ]; replace hc_ := hc_.next; simp only [Nat.reduceAdd] at hc_)
    clear hc_
    have hka : BlkIs (x.alloc (.cells #[.int .i64 a] 3)).drew H _ _ := hk.alloc (.cells #[.int .i64 a] 3)
    have hba : BlkIs (x.alloc (.cells #[.int .i64 a] 3)).drew x.heap.size _ _ := BlkIs.new x #[.int .i64 a] 3
    refine wpAnyH_ready (rs := [13, 15]) (by kernel_rfl) (by simp) ?_
    refine AllReadyH.cons (o := _) rfl (fun K hK => ?_) (AllReadyH.cons (o := _) rfl (fun K hK => ?_) AllReadyH.nil)
    · go_simp
      refine hK.out _ _ (c9) (fun hS => ?_)
      clear hK K
      try simp only [Act.put, List.setIfInBounds_toArray, List.set_cons_zero, List.set_cons_succ]
      refine wpAnyH_ready (rs := [15]) (by kernel_rfl) (by simp) ?_
      refine AllReadyH.cons (o := _) rfl (fun K hK => ?_) AllReadyH.nil
      go_simp
      refine hK.out _ _ (by rw [hka.cell 9, hu]; rfl) (fun hS => ?_)
      clear hK K
      try simp only [Act.put, List.setIfInBounds_toArray, List.set_cons_zero, List.set_cons_succ]
      refine wpAnyH_ready (rs := [16]) (by kernel_rfl) (by simp) ?_
      refine AllReadyH.cons (o := _) rfl (fun K hK => ?_) AllReadyH.nil
      have hca : Chg (· = H) w (x.alloc (.cells #[.int .i64 a] 3)).drew := (hc.alloc _).drew
      have r2 : RowIs (x.alloc (.cells #[.int .i64 a] 3)).drew v0 s.pn := r0.chg hca fun g e e' => by subst e'; exact r0.ne h.blk (by decide) e
      refine step_push rfl _ _ rfl v0 s.pn rfl r2 (by omega) x.heap.size a rfl (hba.cell 0) ?_
      intro v' w' r3 hg hat hsl
      have hc2 : Chg (fun k => some k = v0.ownBlock) (x.alloc (.cells #[.int .i64 a] 3)).drew w' := Chg.of_grown hg fun _ e => e
      have hk2 := hka.chg hc2 fun e => r0.ne h.blk (by decide) e.symm
      obtain ⟨av, c, rfl⟩ := hsl
      have g7 := hk2.free 7
      have g7c := hk2.cell 7
      refine hK.out _ _ (by rw [hk2.cell 9, hu]; rfl) (fun hS => ?_)
      clear hK K
      try simp only [Act.put, List.setIfInBounds_toArray, List.set_cons_zero, List.set_cons_succ]
      have hc_ : Cnt 19 := trivial
      iterate 1 ((first | (refine takeC hc_ (v := ?_) rfl (by kernel_rfl) (by kernel_rfl) (by kernel_rfl) (fun _ _ _ h => h) (Or.inl ⟨by rfl, ?_⟩) hS ?_; rotate_left; (· (intro y hy; (try dsimp only at hy); go_simp; try with_reducible rfl))) | refine takeC hc_ (v := undef) rfl (by kernel_rfl) (by kernel_rfl) (by kernel_rfl) (fun _ _ _ h => h) (Or.inr ⟨by rfl, rfl⟩) hS ?_); try simp only [Act.put, List.setIfInBounds_toArray, List.set_cons_zero, List.set_cons_succ, List.getElem_toArray, List.append, List.getElem_cons_zero, List.getElem_cons_succ]; replace hc_ := hc_.next; simp only [Nat.reduceAdd] at hc_)
      clear hc_
      refine wpAnyH_ready (rs := [20]) (by kernel_rfl) (by simp) ?_
      refine AllReadyH.cons (o := _) rfl (fun K hK => ?_) AllReadyH.nil
      go_simp
      refine hK.out _ _ (by rw [(hk2.set 7 (.slice av (s.pn.length + 1) c)).cell 9, hu]; rfl) (fun hS => ?_)
      clear hK K
      try simp only [Act.put, List.setIfInBounds_toArray, List.set_cons_zero, List.set_cons_succ]
      refine wpAnyH_done (by kernel_rfl) ?_ _
      refine NoPanic.normal ?_
      go_wp2
      go_end0
      refine ⟨rfl, ?_⟩
      refine went_row h hK 0 (by omega) rfl (u0 := .slice av (s.pn.length + 1) c) (u1 := v1) (u2 := v2) (u3 := v3) (four (fun h => absurd rfl h) (fun _ => rfl) (fun _ => rfl) (fun _ => rfl)) (four (fun h => absurd rfl h) (fun _ => ?_) (fun _ => rfl) (fun _ => rfl)) ?_ ?_ ?_ ?_
      · show (if 1 = s.u then _ else _) = (if 1 = s.u then _ else _)
        rw [hu]; rfl
      · show BlkIs _ H (hpC P (s.base 0) s.z (if 0 = s.u then t else s.tk) (s.base 1) (if 1 = s.u then t else s.tk) _ _ _ _ _ _ _ _ _) _
        have e4 : s.top 1 = s.tk := by unfold Hp.top; rw [hu]; rfl
        rw [e4] at hk2
        rw [show (if 0 = s.u then t else s.tk) = t from by rw [hu]; rfl, show (if 1 = s.u then t else s.tk) = s.tk from by rw [hu]; rfl]
        exact hk2.set 7 _
      · refine ((hca.mono fun k e => .inl e).step hc2 fun k e => .inl (.inr e)).setCell (p := ⟨H, 7, none⟩) (.inl (.inl rfl)) _
      · show RowIs _ _ (if 0 = s.u then s.pn ++ [a] else s.pk)
        rw [show (if 0 = s.u then s.pn ++ [a] else s.pk) = s.pn ++ [a] from by rw [hu]; rfl]
        exact r3.chg (S := (· = H)) ((Chg.refl (· = H) w').setCell (p := ⟨H, 7, none⟩) (.inl rfl) _) fun g e e' => by subst e'; exact r3.ne hk2 (by decide) e
      · exact hat.imp id fun e => ⟨_, e, hca.size⟩
    · go_simp
      refine hK.out _ _ (by rw [hka.cell 9, hu]; rfl) (fun hS => ?_)
      clear hK K
      try simp only [Act.put, List.setIfInBounds_toArray, List.set_cons_zero, List.set_cons_succ]
      refine wpAnyH_ready (rs := [13]) (by kernel_rfl) (by simp) ?_
      refine AllReadyH.cons (o := _) rfl (fun K hK => ?_) AllReadyH.nil
      have hk7 : (x.alloc (.cells #[.int .i64 a] 3)).cell? ⟨H, 7, none⟩ = some v0 := hka.cell 7
      go_simp
      refine hK.out _ _ (by rw [hka.cell 9, hu]; rfl) (fun hS => ?_)
      clear hK K
      try simp only [Act.put, List.setIfInBounds_toArray, List.set_cons_zero, List.set_cons_succ]
      refine wpAnyH_ready (rs := [16]) (by kernel_rfl) (by simp) ?_
      refine AllReadyH.cons (o := _) rfl (fun K hK => ?_) AllReadyH.nil
      have hca : Chg (· = H) w (x.alloc (.cells #[.int .i64 a] 3)).drew := (hc.alloc _).drew
      have r2 : RowIs (x.alloc (.cells #[.int .i64 a] 3)).drew v0 s.pn := r0.chg hca fun g e e' => by subst e'; exact r0.ne h.blk (by decide) e
      refine step_push rfl _ _ rfl v0 s.pn rfl r2 (by omega) x.heap.size a rfl (hba.cell 0) ?_
      intro v' w' r3 hg hat hsl
      have hc2 : Chg (fun k => some k = v0.ownBlock) (x.alloc (.cells #[.int .i64 a] 3)).drew w' := Chg.of_grown hg fun _ e => e
      have hk2 := hka.chg hc2 fun e => r0.ne h.blk (by decide) e.symm
      obtain ⟨av, c, rfl⟩ := hsl
      have g7 := hk2.free 7
      have g7c := hk2.cell 7
      refine hK.out _ _ (by rw [hk2.cell 9, hu]; rfl) (fun hS => ?_)
      clear hK K
      try simp only [Act.put, List.setIfInBounds_toArray, List.set_cons_zero, List.set_cons_succ]
      have hc_ : Cnt 19 := trivial
      iterate 1 ((first | (refine takeC hc_ (v := ?_) rfl (by kernel_rfl) (by kernel_rfl) (by kernel_rfl) (fun _ _ _ h => h) (Or.inl ⟨by rfl, ?_⟩) hS ?_; rotate_left; (· (intro y hy; (try dsimp only at hy); go_simp; try with_reducible rfl))) | refine takeC hc_ (v := undef) rfl (by kernel_rfl) (by kernel_rfl) (by kernel_rfl) (fun _ _ _ h => h) (Or.inr ⟨by rfl, rfl⟩) hS ?_); try simp only [Act.put, List.setIfInBounds_toArray, List.set_cons_zero, List.set_cons_succ, List.getElem_toArray, List.append, List.getElem_cons_zero, List.getElem_cons_succ]; replace hc_ := hc_.next; simp only [Nat.reduceAdd] at hc_)
      clear hc_
      refine wpAnyH_ready (rs := [20]) (by kernel_rfl) (by simp) ?_
      refine AllReadyH.cons (o := _) rfl (fun K hK => ?_) AllReadyH.nil
      go_simp
      refine hK.out _ _ (by rw [(hk2.set 7 (.slice av (s.pn.length + 1) c)).cell 9, hu]; rfl) (fun hS => ?_)
      clear hK K
      try simp only [Act.put, List.setIfInBounds_toArray, List.set_cons_zero, List.set_cons_succ]
      refine wpAnyH_done (by kernel_rfl) ?_ _
      refine NoPanic.normal ?_
      go_wp2
      go_end0
      refine ⟨rfl, ?_⟩
      refine went_row h hK 0 (by omega) rfl (u0 := .slice av (s.pn.length + 1) c) (u1 := v1) (u2 := v2) (u3 := v3) (four (fun h => absurd rfl h) (fun _ => rfl) (fun _ => rfl) (fun _ => rfl)) (four (fun h => absurd rfl h) (fun _ => ?_) (fun _ => rfl) (fun _ => rfl)) ?_ ?_ ?_ ?_
      · show (if 1 = s.u then _ else _) = (if 1 = s.u then _ else _)
        rw [hu]; rfl
      · show BlkIs _ H (hpC P (s.base 0) s.z (if 0 = s.u then t else s.tk) (s.base 1) (if 1 = s.u then t else s.tk) _ _ _ _ _ _ _ _ _) _
        have e4 : s.top 1 = s.tk := by unfold Hp.top; rw [hu]; rfl
        rw [e4] at hk2
        rw [show (if 0 = s.u then t else s.tk) = t from by rw [hu]; rfl, show (if 1 = s.u then t else s.tk) = s.tk from by rw [hu]; rfl]
        exact hk2.set 7 _
      · refine ((hca.mono fun k e => .inl e).step hc2 fun k e => .inl (.inr e)).setCell (p := ⟨H, 7, none⟩) (.inl (.inl rfl)) _
      · show RowIs _ _ (if 0 = s.u then s.pn ++ [a] else s.pk)
        rw [show (if 0 = s.u then s.pn ++ [a] else s.pk) = s.pn ++ [a] from by rw [hu]; rfl]
        exact r3.chg (S := (· = H)) ((Chg.refl (· = H) w').setCell (p := ⟨H, 7, none⟩) (.inl rfl) _) fun g e e' => by subst e'; exact r3.ne hk2 (by decide) e
      · exact hat.imp id fun e => ⟨_, e, hca.size⟩
  · have e1 : s.bn = s.base 1 := by unfold Hp.bn; rw [hu]
    have e2 : s.pl 1 = s.pn := by unfold Hp.pl; rw [hu]; rfl
    have r0 := h.r1
    rw [e2] at r0
    rw [hu] at c9
    rw [e1]
    have f1 := fr 4
    have f2 := fr 5
    have f3 := fr 6
    have f7 := fr 8
    generalize hbn : s.base 1 = b0 at *
    go_enter Tryz.func52, Tryz.ntmps52
    go_upto_region 1 with fail
    go_region
    have hk : BlkIs (((((w.setCell ⟨H, 4, none⟩ (.int .i64 b0)).setCell ⟨H, 5, none⟩ (.int .i64 s.z)).setCell ⟨H, 6, none⟩ (.int .i64 t)).alloc (.cells #[.int .i64 b0, .int .i64 s.z, .int .i64 t] 76)).drew) H
        (hpC P (s.base 0) s.z (s.top 0) (s.base 1) t v0 v1 s.u s.mv s.ow s.sc s.se v2 v3) 80 := by
      rw [hbn]
      exact (((h.blk.set 4 (.int .i64 b0)).set 5 (.int .i64 s.z)).set 6 (.int .i64 t)).alloc _
    have hc : Chg (· = H) w (((((w.setCell ⟨H, 4, none⟩ (.int .i64 b0)).setCell ⟨H, 5, none⟩ (.int .i64 s.z)).setCell ⟨H, 6, none⟩ (.int .i64 t)).alloc (.cells #[.int .i64 b0, .int .i64 s.z, .int .i64 t] 76)).drew) :=
      (((((Chg.refl (· = H) w).setCell (p := ⟨H, 4, none⟩) (.inl rfl) _).setCell (p := ⟨H, 5, none⟩) (.inl rfl) _).setCell (p := ⟨H, 6, none⟩) (.inl rfl) _).alloc _).drew
    generalize (((((w.setCell ⟨H, 4, none⟩ (.int .i64 b0)).setCell ⟨H, 5, none⟩ (.int .i64 s.z)).setCell ⟨H, 6, none⟩ (.int .i64 t)).alloc (.cells #[.int .i64 b0, .int .i64 s.z, .int .i64 t] 76)).drew) = x at *
    clear c0 c1 c2 c3 c4 c5 c6 c7 c8 c9 ca cb cc cd ce cf f1 f2 f3 f7 fr
    obtain ⟨c0, c1, c2, c3, c4, c5, c6, c7, c8, c9, ca, cb, cc, cd, ce, cf⟩ := BlkIs.facts16 hk
    have f7 := hk.free 8
    have r1 : RowIs x v1 s.pn := r0.chg hc fun g e e' => by subst e'; exact r0.ne h.blk (by decide) e
    rw [hu] at c9
    go_upto_region 2 with fail
    refine wp_region_noPanic ?_
    refine wp_region_held_drew (S := fun y => y.cell? ⟨H, 9, none⟩ = some (.int .i64 (1 : Nat))) (by kernel_rfl) c9 (fun hS => ?_)
    have hc_ : Cnt 0 := trivial
    iterate 13 ((first | (refine takeC hc_ (v := ?_) rfl (by kernel_rfl) (by kernel_rfl) (by kernel_rfl) (fun _ _ _ h => h) (Or.inl ⟨by rfl, ?_⟩) hS ?_; rotate_left; (· (intro y hy; (try dsimp only at hy); go_simp; try with_reducible rfl))) | refine takeC hc_ (v := undef) rfl (by kernel_rfl) (by kernel_rfl) (by kernel_rfl) (fun _ _ _ h => h) (Or.inr ⟨by rfl, rfl⟩) hS ?_); try simp only [Act.put, List.setIfInBounds_toArray, List.set_cons_zero, List.set_cons_succ, List.getElem_toArray, List.append, List.getElem_cons_zero, List.getElem_cons_succ]; replace hc_ := hc_.next; simp only [Nat.reduceAdd] at hc_)
    clear hc_
    have hc_ : Cnt 14 := trivial
    iterate 1 ((first | (refine takeC hc_ (v := ?_) rfl (by kernel_rfl) (by kernel_rfl) (by kernel_rfl) (fun _ _ _ h => h) (Or.inl ⟨by rfl, ?_⟩) hS ?_; rotate_left; (· (intro y hy; (try dsimp only at hy); go_simp; try with_reducible rfl))) | refine takeC hc_ (v := undef) rfl (by kernel_rfl) (by kernel_rfl) (by kernel_rfl) (fun _ _ _ h => h) (Or.inr ⟨by rfl, rfl⟩) hS ?_); try simp only [Act.put, List.setIfInBounds_toArray, List.set_cons_zero, List.set_cons_succ, List.getElem_toArray, List.append, List.getElem_cons_zero, List.getElem_cons_succ]; replace hc_ := hc_.next; simp only [Nat.reduceAdd] at hc_)
    clear hc_
    have hc_ : Cnt 17 := trivial
    iterate 2 ((first | (refine takeC hc_ (v := ?_) rfl (by kernel_rfl) (by kernel_rfl) (by kernel_rfl) (fun _ _ _ h => h) (Or.inl ⟨by rfl, ?_⟩) hS ?_; rotate_left; (· (intro y hy; (try dsimp only at hy); go_simp; try with_reducible rfl))) | refine takeC hc_ (v := undef) rfl (by kernel_rfl) (by kernel_rfl) (by kernel_rfl) (fun _ _ _ h => h) (Or.inr ⟨by rfl, rfl⟩) hS ?_); try simp only [Act.put, List.setIfInBounds_toArray, List.set_cons_zero, List.set_cons_succ, List.getElem_toArray, List.append, List.getElem_cons_zero, List.getElem_cons_succ]; replace hc_ := hc_.next; simp only [Nat.reduceAdd] at hc_)
    clear hc_
    have hka : BlkIs (x.alloc (.cells #[.int .i64 a] 3)).drew H _ _ := hk.alloc (.cells #[.int .i64 a] 3)
    have hba : BlkIs (x.alloc (.cells #[.int .i64 a] 3)).drew x.heap.size _ _ := BlkIs.new x #[.int .i64 a] 3
    refine wpAnyH_ready (rs := [13, 15]) (by kernel_rfl) (by simp) ?_
    refine AllReadyH.cons (o := _) rfl (fun K hK => ?_) (AllReadyH.cons (o := _) rfl (fun K hK => ?_) AllReadyH.nil)
    · go_simp
      refine hK.out _ _ (c9) (fun hS => ?_)
      clear hK K
      try simp only [Act.put, List.setIfInBounds_toArray, List.set_cons_zero, List.set_cons_succ]
      refine wpAnyH_ready (rs := [15]) (by kernel_rfl) (by simp) ?_
      refine AllReadyH.cons (o := _) rfl (fun K hK => ?_) AllReadyH.nil
      go_simp
      refine hK.out _ _ (by rw [hka.cell 9, hu]; rfl) (fun hS => ?_)
      clear hK K
      try simp only [Act.put, List.setIfInBounds_toArray, List.set_cons_zero, List.set_cons_succ]
      refine wpAnyH_ready (rs := [16]) (by kernel_rfl) (by simp) ?_
      refine AllReadyH.cons (o := _) rfl (fun K hK => ?_) AllReadyH.nil
      have hca : Chg (· = H) w (x.alloc (.cells #[.int .i64 a] 3)).drew := (hc.alloc _).drew
      have r2 : RowIs (x.alloc (.cells #[.int .i64 a] 3)).drew v1 s.pn := r0.chg hca fun g e e' => by subst e'; exact r0.ne h.blk (by decide) e
      refine step_push rfl _ _ rfl v1 s.pn rfl r2 (by omega) x.heap.size a rfl (hba.cell 0) ?_
      intro v' w' r3 hg hat hsl
      have hc2 : Chg (fun k => some k = v1.ownBlock) (x.alloc (.cells #[.int .i64 a] 3)).drew w' := Chg.of_grown hg fun _ e => e
      have hk2 := hka.chg hc2 fun e => r0.ne h.blk (by decide) e.symm
      obtain ⟨av, c, rfl⟩ := hsl
      have g7 := hk2.free 8
      have g7c := hk2.cell 8
      refine hK.out _ _ (by rw [hk2.cell 9, hu]; rfl) (fun hS => ?_)
      clear hK K
      try simp only [Act.put, List.setIfInBounds_toArray, List.set_cons_zero, List.set_cons_succ]
      have hc_ : Cnt 19 := trivial
      iterate 1 ((first | (refine takeC hc_ (v := ?_) rfl (by kernel_rfl) (by kernel_rfl) (by kernel_rfl) (fun _ _ _ h => h) (Or.inl ⟨by rfl, ?_⟩) hS ?_; rotate_left; (· (intro y hy; (try dsimp only at hy); go_simp; try with_reducible rfl))) | refine takeC hc_ (v := undef) rfl (by kernel_rfl) (by kernel_rfl) (by kernel_rfl) (fun _ _ _ h => h) (Or.inr ⟨by rfl, rfl⟩) hS ?_); try simp only [Act.put, List.setIfInBounds_toArray, List.set_cons_zero, List.set_cons_succ, List.getElem_toArray, List.append, List.getElem_cons_zero, List.getElem_cons_succ]; replace hc_ := hc_.next; simp only [Nat.reduceAdd] at hc_)
      clear hc_
      refine wpAnyH_ready (rs := [20]) (by kernel_rfl) (by simp) ?_
      refine AllReadyH.cons (o := _) rfl (fun K hK => ?_) AllReadyH.nil
      go_simp
      refine hK.out _ _ (by rw [(hk2.set 8 (.slice av (s.pn.length + 1) c)).cell 9, hu]; rfl) (fun hS => ?_)
      clear hK K
      try simp only [Act.put, List.setIfInBounds_toArray, List.set_cons_zero, List.set_cons_succ]
      refine wpAnyH_done (by kernel_rfl) ?_ _
      refine NoPanic.normal ?_
      go_wp2
      go_end0
      refine ⟨rfl, ?_⟩
      refine went_row h hK 1 (by omega) rfl (u0 := v0) (u1 := .slice av (s.pn.length + 1) c) (u2 := v2) (u3 := v3) (four (fun _ => rfl) (fun h => absurd rfl h) (fun _ => rfl) (fun _ => rfl)) (four (fun _ => ?_) (fun h => absurd rfl h) (fun _ => rfl) (fun _ => rfl)) ?_ ?_ ?_ ?_
      · show (if 0 = s.u then _ else _) = (if 0 = s.u then _ else _)
        rw [hu]; rfl
      · show BlkIs _ H (hpC P (s.base 0) s.z (if 0 = s.u then t else s.tk) (s.base 1) (if 1 = s.u then t else s.tk) _ _ _ _ _ _ _ _ _) _
        have e4 : s.top 0 = s.tk := by unfold Hp.top; rw [hu]; rfl
        rw [e4] at hk2
        rw [show (if 0 = s.u then t else s.tk) = s.tk from by rw [hu]; rfl, show (if 1 = s.u then t else s.tk) = t from by rw [hu]; rfl]
        exact hk2.set 8 _
      · refine ((hca.mono fun k e => .inl e).step hc2 fun k e => .inl (.inr e)).setCell (p := ⟨H, 8, none⟩) (.inl (.inl rfl)) _
      · show RowIs _ _ (if 1 = s.u then s.pn ++ [a] else s.pk)
        rw [show (if 1 = s.u then s.pn ++ [a] else s.pk) = s.pn ++ [a] from by rw [hu]; rfl]
        exact r3.chg (S := (· = H)) ((Chg.refl (· = H) w').setCell (p := ⟨H, 8, none⟩) (.inl rfl) _) fun g e e' => by subst e'; exact r3.ne hk2 (by decide) e
      · exact hat.imp id fun e => ⟨_, e, hca.size⟩
    · go_simp
      refine hK.out _ _ (by rw [hka.cell 9, hu]; rfl) (fun hS => ?_)
      clear hK K
      try simp only [Act.put, List.setIfInBounds_toArray, List.set_cons_zero, List.set_cons_succ]
      refine wpAnyH_ready (rs := [13]) (by kernel_rfl) (by simp) ?_
      refine AllReadyH.cons (o := _) rfl (fun K hK => ?_) AllReadyH.nil
      have hk7 : (x.alloc (.cells #[.int .i64 a] 3)).cell? ⟨H, 8, none⟩ = some v1 := hka.cell 8
      go_simp
      refine hK.out _ _ (by rw [hka.cell 9, hu]; rfl) (fun hS => ?_)
      clear hK K
      try simp only [Act.put, List.setIfInBounds_toArray, List.set_cons_zero, List.set_cons_succ]
      refine wpAnyH_ready (rs := [16]) (by kernel_rfl) (by simp) ?_
      refine AllReadyH.cons (o := _) rfl (fun K hK => ?_) AllReadyH.nil
      have hca : Chg (· = H) w (x.alloc (.cells #[.int .i64 a] 3)).drew := (hc.alloc _).drew
      have r2 : RowIs (x.alloc (.cells #[.int .i64 a] 3)).drew v1 s.pn := r0.chg hca fun g e e' => by subst e'; exact r0.ne h.blk (by decide) e
      refine step_push rfl _ _ rfl v1 s.pn rfl r2 (by omega) x.heap.size a rfl (hba.cell 0) ?_
      intro v' w' r3 hg hat hsl
      have hc2 : Chg (fun k => some k = v1.ownBlock) (x.alloc (.cells #[.int .i64 a] 3)).drew w' := Chg.of_grown hg fun _ e => e
      have hk2 := hka.chg hc2 fun e => r0.ne h.blk (by decide) e.symm
      obtain ⟨av, c, rfl⟩ := hsl
      have g7 := hk2.free 8
      have g7c := hk2.cell 8
      refine hK.out _ _ (by rw [hk2.cell 9, hu]; rfl) (fun hS => ?_)
      clear hK K
      try simp only [Act.put, List.setIfInBounds_toArray, List.set_cons_zero, List.set_cons_succ]
      have hc_ : Cnt 19 := trivial
      iterate 1 ((first | (refine takeC hc_ (v := ?_) rfl (by kernel_rfl) (by kernel_rfl) (by kernel_rfl) (fun _ _ _ h => h) (Or.inl ⟨by rfl, ?_⟩) hS ?_; rotate_left; (· (intro y hy; (try dsimp only at hy); go_simp; try with_reducible rfl))) | refine takeC hc_ (v := undef) rfl (by kernel_rfl) (by kernel_rfl) (by kernel_rfl) (fun _ _ _ h => h) (Or.inr ⟨by rfl, rfl⟩) hS ?_); try simp only [Act.put, List.setIfInBounds_toArray, List.set_cons_zero, List.set_cons_succ, List.getElem_toArray, List.append, List.getElem_cons_zero, List.getElem_cons_succ]; replace hc_ := hc_.next; simp only [Nat.reduceAdd] at hc_)
      clear hc_
      refine wpAnyH_ready (rs := [20]) (by kernel_rfl) (by simp) ?_
      refine AllReadyH.cons (o := _) rfl (fun K hK => ?_) AllReadyH.nil
      go_simp
      refine hK.out _ _ (by rw [(hk2.set 8 (.slice av (s.pn.length + 1) c)).cell 9, hu]; rfl) (fun hS => ?_)
      clear hK K
      try simp only [Act.put, List.setIfInBounds_toArray, List.set_cons_zero, List.set_cons_succ]
      refine wpAnyH_done (by kernel_rfl) ?_ _
      refine NoPanic.normal ?_
      go_wp2
      go_end0
      refine ⟨rfl, ?_⟩
      refine went_row h hK 1 (by omega) rfl (u0 := v0) (u1 := .slice av (s.pn.length + 1) c) (u2 := v2) (u3 := v3) (four (fun _ => rfl) (fun h => absurd rfl h) (fun _ => rfl) (fun _ => rfl)) (four (fun _ => ?_) (fun h => absurd rfl h) (fun _ => rfl) (fun _ => rfl)) ?_ ?_ ?_ ?_
      · show (if 0 = s.u then _ else _) = (if 0 = s.u then _ else _)
        rw [hu]; rfl
      · show BlkIs _ H (hpC P (s.base 0) s.z (if 0 = s.u then t else s.tk) (s.base 1) (if 1 = s.u then t else s.tk) _ _ _ _ _ _ _ _ _) _
        have e4 : s.top 0 = s.tk := by unfold Hp.top; rw [hu]; rfl
        rw [e4] at hk2
        rw [show (if 0 = s.u then t else s.tk) = s.tk from by rw [hu]; rfl, show (if 1 = s.u then t else s.tk) = t from by rw [hu]; rfl]
        exact hk2.set 8 _
      · refine ((hca.mono fun k e => .inl e).step hc2 fun k e => .inl (.inr e)).setCell (p := ⟨H, 8, none⟩) (.inl (.inl rfl)) _
      · show RowIs _ _ (if 1 = s.u then s.pn ++ [a] else s.pk)
        rw [show (if 1 = s.u then s.pn ++ [a] else s.pk) = s.pn ++ [a] from by rw [hu]; rfl]
        exact r3.chg (S := (· = H)) ((Chg.refl (· = H) w').setCell (p := ⟨H, 8, none⟩) (.inl rfl) _) fun g e e' => by subst e'; exact r3.ne hk2 (by decide) e
      · exact hat.imp id fun e => ⟨_, e, hca.size⟩
end

end Go.Proofs.YtbjmeibcphmgbaaGreat

namespace Go.Proofs.YtbjmeibcphmgbaaGreat
open Go.ChangeShapes Go.WideShapes Go.ChangeAt Go.RowKit

set_option linter.unusedSimpArgs false
set_option linter.unusedVariables false

section
variable {w : World} {H P b : Nat} {v0 v1 v2 v3 : Value} {s : Hp} {K : Nat → Prop}
/-- The cells of the space in use. -/
theorem HeapIn.inuse (h : HeapIn w H P b v0 v1 v2 v3 s) (hu : s.u = 0 ∨ s.u = 1) :
    (s.u = 0 ∧ w.cell? ⟨H, 9, none⟩ = some (.int .i64 0) ∧ w.cell? ⟨H, 1, none⟩ = some (.int .i64 s.bn) ∧ w.cell? ⟨H, 2, none⟩ = some (.int .i64 s.z) ∧ w.cell? ⟨H, 3, none⟩ = some (.int .i64 s.tn)) ∨
    (s.u = 1 ∧ w.cell? ⟨H, 9, none⟩ = some (.int .i64 1) ∧ w.cell? ⟨H, 4, none⟩ = some (.int .i64 s.bn) ∧ w.cell? ⟨H, 5, none⟩ = some (.int .i64 s.z) ∧ w.cell? ⟨H, 6, none⟩ = some (.int .i64 s.tn)) := by
  have c9 : w.cell? ⟨H, 9, none⟩ = some (.int .i64 s.u) := h.blk.cell 9
  rcases hu with hu | hu
  · refine .inl ⟨hu, by rw [c9, hu]; rfl, ?_, h.blk.cell 2, ?_⟩
    · rw [show s.bn = s.base 0 from by unfold Hp.bn; rw [hu]]; exact h.blk.cell 1
    · rw [show s.tn = s.top 0 from by unfold Hp.top; rw [hu]; rfl]; exact h.blk.cell 3
  · refine .inr ⟨hu, by rw [c9, hu]; rfl, ?_, h.blk.cell 5, ?_⟩
    · rw [show s.bn = s.base 1 from by unfold Hp.bn; rw [hu]]; exact h.blk.cell 4
    · rw [show s.tn = s.top 1 from by unfold Hp.top; rw [hu]; rfl]; exact h.blk.cell 6

theorem Went.after {x y : World} {S : Nat → Prop} (hc : Chg S w x) (hS : ∀ k, S k → K k) (h : Went x K H s y) : Went w K H s y := by
  obtain ⟨K1, h1, h2, h3⟩ := h
  exact ⟨K1, h1, fun k hk => (h2 k hk).imp id fun e => Nat.le_trans hc.size e, (hc.mono hS).trans h3⟩
/-- What is not there stays. -/
theorem moved_no (h : HeapIn w H P b v0 v1 v2 v3 s) (g : Sound s) (p : Nat) (hp : p ∉ s.pk) :
    Calls Tryz.prog 17 #[.pointer (some ⟨H, 0, none⟩), .int .i64 p] w fun e w' => e = .returned (.int .i64 p) ∧ Below w.heap.size w w' := by
  have M1 := old_any h g.u01
  obtain ⟨k, hk⟩ : ∃ k, 1 - s.u = k := ⟨_, rfl⟩
  have hkk := g.pl_k
  rw [hk] at M1 hkk
  have M2 := fun x (hx : Below w.heap.size w x) => has_at (h.on hx) k p (by have := g.u01; omega) (by rw [hkk]; exact g.rk) (by rw [hkk]; have := g.lk; omega)
  have hno : decide ((p : Int) ∈ nums (s.pl k)) = false := decide_eq_false (by rw [hkk, mem_nums]; exact hp)
  rw [hno] at M2
  clear h g hkk hno hk
  go_enter Tryz.func17, Tryz.ntmps17
  go_wp2_with fail
  refine M1.mono ?_
  rintro e x ⟨rfl, hb⟩
  go_wp2_with fail
  refine (M2 _ hb).mono ?_
  rintro e y ⟨rfl, hb2⟩
  go_wp2
  go_ret
  exact ⟨rfl, hb.trans (hb2.mono hb.size)⟩

/-- The cells that Copy's call reads: the heap's arena, the space's box. -/
abbrev MvS (H P q bn z tn : Nat) (y : World) : Prop := y.cell? ⟨H, 0, none⟩ = some (.pointer (some ⟨P, 0, none⟩)) ∧ y.cell? ⟨q, 0, none⟩ = some (.int .i64 bn) ∧ y.cell? ⟨q, 1, none⟩ = some (.int .i64 z) ∧ y.cell? ⟨q, 2, none⟩ = some (.int .i64 tn)
theorem MvS.of {cs : Array Value} {q bn z tn : Nat} {y : World} (h : BlkIs y H (.mk (.pointer (some ⟨P, 0, none⟩) :: cs.toList)) 80) (g : BlkIs y q #[.int .i64 bn, .int .i64 z, .int .i64 tn] 76) : MvS H P q bn z tn y :=
  ⟨h.cell 0, g.cell 0, g.cell 1, g.cell 2⟩

set_option maxRecDepth 100000 in
set_option maxHeartbeats 4000000 in
theorem moved_yes (h : HeapIn w H P b v0 v1 v2 v3 s) (hF : ∀ k, Foot H P b v0 v1 v2 v3 k → K k) (g : Sound s) (p n tn' : Nat) (l' : List Int) (hp : p ∈ s.pk) (hl' : l'.length = s.l.length) (hr : s.tn ≤ tn' ∧ tn' - s.tn ≤ s.ow)
    (M3 : ∀ x, ArenaAt 146 x P b s.l → Calls Tryz.prog 51 #[.pointer (some ⟨P, 0, none⟩), .int .i64 p, spV s.bn s.z s.tn] x fun e x' => e = .returned (.tuple #[spV s.bn s.z tn', .int .i64 n, .int .i64 0]) ∧ ArenaAt 146 x' P b l' ∧ Chg (· = b) x x') :
    Calls Tryz.prog 17 #[.pointer (some ⟨H, 0, none⟩), .int .i64 p] w fun e w' => e = .returned (.int .i64 n) ∧ Went w K H (if tn' = s.tn then { s with l := l' } else { s with l := l', ow := s.ow - (tn' - s.tn), pn := s.pn ++ [n], tn := tn' }) w' := by
  have M1 := old_any h g.u01
  obtain ⟨k, hk⟩ : ∃ k, 1 - s.u = k := ⟨_, rfl⟩
  have hkk := g.pl_k
  rw [hk] at M1 hkk
  have M2 := fun x (hx : Below w.heap.size w x) => has_at (h.on hx) k p (by have := g.u01; omega) (by rw [hkk]; exact g.rk) (by rw [hkk]; have := g.lk; omega)
  have hno : decide ((p : Int) ∈ nums (s.pl k)) = true := decide_eq_true (by rw [hkk, mem_nums]; exact hp)
  rw [hno] at M2
  clear hkk hno hk
  obtain ⟨s', hs'⟩ : ∃ s', (if tn' = s.tn then { s with l := l' } else { s with l := l', ow := s.ow - (tn' - s.tn), pn := s.pn ++ [n], tn := tn' }) = s' := ⟨_, rfl⟩
  rw [hs']
  have Hs := Lib.hid hs'
  clear hs'
  go_enter Tryz.func17, Tryz.ntmps17
  go_wp2_with fail
  refine M1.mono ?_
  rintro e x ⟨rfl, hb⟩
  go_wp2_with fail
  refine (M2 _ hb).mono ?_
  rintro e y ⟨rfl, hb2⟩
  replace hb2 := hb.trans (hb2.mono hb.size)
  clear hb M1 M2 x
  have hy := h.on hb2
  have hcw : Chg (fun k => k = H ∨ k = b) w y := Chg.of_below hb2 (Nat.le_refl _)
  clear hb2 h
  have hl2 := hy.blk.lt
  have c0 : y.cell? ⟨H, 0, none⟩ = some (.pointer (some ⟨P, 0, none⟩)) := hy.blk.cell 0
  go_upto_region 3 with fail
  go_cut [5] from 16 to 56 (fun s5 wx => ∃ q : Nat, s5 = .pointer (some ⟨q, 0, none⟩) ∧ BlkIs wx q #[.int .i64 s.bn, .int .i64 s.z, .int .i64 s.tn] 76 ∧ HeapIn wx H P b v0 v1 v2 v3 s ∧ Chg (fun k => k = H ∨ k = b) w wx)
  case first =>
    have hx : BlkIs ((y.alloc (.cells #[.int .i64 s.bn, .int .i64 s.z, .int .i64 s.tn] 76)).drew) y.heap.size _ _ := BlkIs.new y #[.int .i64 s.bn, .int .i64 s.z, .int .i64 s.tn] 76
    have hhx : HeapIn ((y.alloc (.cells #[.int .i64 s.bn, .int .i64 s.z, .int .i64 s.tn] 76)).drew) H P b v0 v1 v2 v3 s := hy.on ((Below.refl _ y).alloc (Nat.le_refl _) _).drew
    have hcx : Chg (fun k => k = H ∨ k = b) w ((y.alloc (.cells #[.int .i64 s.bn, .int .i64 s.z, .int .i64 s.tn] 76)).drew) := (hcw.alloc _).drew
    rcases hy.inuse g.u01 with ⟨hu, c9, cB, cZ, cT⟩ | ⟨hu, c9, cB, cZ, cT⟩
    · go_region
      go_wp2_with fail
      go_meet
      exact ⟨_, rfl, hx, hhx, hcx⟩
    · go_region
      go_wp2_with fail
      go_meet
      exact ⟨_, rfl, hx, hhx, hcx⟩
  case rest =>
    obtain ⟨q, rfl, hx, hhx, hcx⟩ := hcut
    clear hy hcw hl2 c0 y
    generalize wc = x at *
    go_upto_region 4 with fail
    go_cut [6, 7, 8] from 25 to 56 (fun s6 s7 s8 wx => ∃ m : Nat, s6 = .pointer (some ⟨m, 0, none⟩) ∧ s7 = .int .i64 n ∧ s8 = .int .i64 0 ∧ BlkIs wx m #[.int .i64 s.bn, .int .i64 s.z, .int .i64 tn'] 76 ∧ BlkIs wx q #[.int .i64 s.bn, .int .i64 s.z, .int .i64 s.tn] 76 ∧ HeapIn wx H P b v0 v1 v2 v3 { s with l := l' } ∧ Chg (fun k => k = H ∨ k = b) w wx)
    case first =>
      refine wp_region_noPanic ?_
      refine wp_region_held_drew (S := MvS H P q s.bn s.z s.tn) (by kernel_rfl) ⟨hhx.blk.cell 0, hx.cell 0, hx.cell 1, hx.cell 2⟩ (fun hS => ?_)
      have hhd : HeapIn x.drew H P b v0 v1 v2 v3 s := hhx.on (Below.refl _ x).drew
      have hxd : BlkIs x.drew q _ _ := hx
      have hcd := hcx.drew
      have hc_ : Cnt 0 := trivial
      iterate 6 ((first | (refine takeC hc_ (v := ?_) rfl (by kernel_rfl) (by kernel_rfl) (by kernel_rfl) (fun _ _ _ h => h) (Or.inl ⟨by rfl, ?_⟩) hS ?_; rotate_left; (· (intro y hy; (try dsimp only at hy); go_simp; try with_reducible rfl))) | refine takeC hc_ (v := undef) rfl (by kernel_rfl) (by kernel_rfl) (by kernel_rfl) (fun _ _ _ h => h) (Or.inr ⟨by rfl, rfl⟩) hS ?_); try simp only [Act.put, List.setIfInBounds_toArray, List.set_cons_zero, List.set_cons_succ, List.getElem_toArray, List.append, List.getElem_cons_zero, List.getElem_cons_succ]; replace hc_ := hc_.next; simp only [Nat.reduceAdd] at hc_)
      clear hc_
      refine wpAnyH_ready (rs := [6, 11]) (by kernel_rfl) (by simp) ?_
      refine AllReadyH.cons (o := _) rfl (fun K hK => ?_) (AllReadyH.cons (o := _) rfl (fun K hK => ?_) AllReadyH.nil)
      · go_simp
        refine (M3 _ hhd.ar).mono ?_
        rintro e v ⟨rfl, hA, hc⟩
        have hv := hhd.put hA hc
        have hxv := hxd.chg hc (ne_of_types hxd hhd.ar.row (by decide))
        have hcv := hcd.trans (hc.mono fun k e => .inr e)
        refine hK.out _ _ (⟨hv.blk.cell 0, hxv.cell 0, hxv.cell 1, hxv.cell 2⟩) (fun hS => ?_)
        clear hK K
        try simp only [Act.put, List.setIfInBounds_toArray, List.set_cons_zero, List.set_cons_succ]
        have hc_ : Cnt 7 := trivial
        iterate 4 ((first | (refine takeC hc_ (v := ?_) rfl (by kernel_rfl) (by kernel_rfl) (by kernel_rfl) (fun _ _ _ h => h) (Or.inl ⟨by rfl, ?_⟩) hS ?_; rotate_left; (· (intro y hy; (try dsimp only at hy); go_simp; try with_reducible rfl))) | refine takeC hc_ (v := undef) rfl (by kernel_rfl) (by kernel_rfl) (by kernel_rfl) (fun _ _ _ h => h) (Or.inr ⟨by rfl, rfl⟩) hS ?_); try simp only [Act.put, List.setIfInBounds_toArray, List.set_cons_zero, List.set_cons_succ, List.getElem_toArray, List.append, List.getElem_cons_zero, List.getElem_cons_succ]; replace hc_ := hc_.next; simp only [Nat.reduceAdd] at hc_)
        clear hc_
        refine wpAnyH_ready (rs := [11]) (by kernel_rfl) (by simp) ?_
        refine AllReadyH.cons (o := _) rfl (fun K hK => ?_) AllReadyH.nil
        go_simp
        have hv2 := hv.on ((Below.refl _ v).alloc (Nat.le_refl _) (.cells #[.int .i64 0, .int .i64 0, .int .i64 0] 76))
        have hxv2 := hxv.alloc (.cells #[.int .i64 0, .int .i64 0, .int .i64 0] 76)
        refine hK.out _ _ (⟨hv2.blk.cell 0, hxv2.cell 0, hxv2.cell 1, hxv2.cell 2⟩) (fun hS => ?_)
        clear hK K
        try simp only [Act.put, List.setIfInBounds_toArray, List.set_cons_zero, List.set_cons_succ]
        refine wpAnyH_ready (rs := [12]) (by kernel_rfl) (by simp) ?_
        refine AllReadyH.cons (o := _) rfl (fun K hK => ?_) AllReadyH.nil
        go_simp
        have hv3 := hv.on ((Below.refl _ v).alloc (Nat.le_refl _) (.cells #[.int .i64 s.bn, .int .i64 s.z, .int .i64 tn'] 76))
        have hxv3 := hxv.alloc (.cells #[.int .i64 s.bn, .int .i64 s.z, .int .i64 tn'] 76)
        have hm3 := BlkIs.new v #[.int .i64 s.bn, .int .i64 s.z, .int .i64 tn'] 76
        have hcv3 := hcv.alloc (.cells #[.int .i64 s.bn, .int .i64 s.z, .int .i64 tn'] 76)
        refine hK.out _ _ (⟨hv3.blk.cell 0, hxv3.cell 0, hxv3.cell 1, hxv3.cell 2⟩) (fun hS => ?_)
        clear hK K
        try simp only [Act.put, List.setIfInBounds_toArray, List.set_cons_zero, List.set_cons_succ]
        have hc_ : Cnt 13 := trivial
        iterate 2 ((first | (refine takeC hc_ (v := ?_) rfl (by kernel_rfl) (by kernel_rfl) (by kernel_rfl) (fun _ _ _ h => h) (Or.inl ⟨by rfl, ?_⟩) hS ?_; rotate_left; (· (intro y hy; (try dsimp only at hy); go_simp; try with_reducible rfl))) | refine takeC hc_ (v := undef) rfl (by kernel_rfl) (by kernel_rfl) (by kernel_rfl) (fun _ _ _ h => h) (Or.inr ⟨by rfl, rfl⟩) hS ?_); try simp only [Act.put, List.setIfInBounds_toArray, List.set_cons_zero, List.set_cons_succ, List.getElem_toArray, List.append, List.getElem_cons_zero, List.getElem_cons_succ]; replace hc_ := hc_.next; simp only [Nat.reduceAdd] at hc_)
        clear hc_
        refine wpAnyH_done (by kernel_rfl) ?_ _
        refine NoPanic.normal ?_
        go_wp2_with fail
        go_meet
        exact ⟨_, rfl, rfl, rfl, hm3, hxv3, hv3, hcv3⟩
      · go_simp
        have hb1 := (Below.refl _ x.drew).alloc (Nat.le_refl _) (.cells #[.int .i64 0, .int .i64 0, .int .i64 0] 76)
        have hh1 := hhd.on hb1
        have hx1 := hxd.alloc (.cells #[.int .i64 0, .int .i64 0, .int .i64 0] 76)
        have hm1 : BlkIs _ x.heap.size _ _ := BlkIs.new x.drew #[.int .i64 0, .int .i64 0, .int .i64 0] 76
        have hc1 := hcd.alloc (.cells #[.int .i64 0, .int .i64 0, .int .i64 0] 76)
        have hmH : x.heap.size ≠ H := fun e => by have := hhx.blk.lt; omega
        have hmb : x.heap.size ≠ b := fun e => by have := hhx.ar.row.lt; omega
        have hmq : x.heap.size ≠ q := fun e => by have := hx.lt; omega
        have hmw : w.heap.size ≤ x.heap.size := hcx.size
        refine hK.out _ _ (⟨hh1.blk.cell 0, hx1.cell 0, hx1.cell 1, hx1.cell 2⟩) (fun hS => ?_)
        clear hK K
        try simp only [Act.put, List.setIfInBounds_toArray, List.set_cons_zero, List.set_cons_succ]
        refine wpAnyH_ready (rs := [6]) (by kernel_rfl) (by simp) ?_
        refine AllReadyH.cons (o := _) rfl (fun K hK => ?_) AllReadyH.nil
        go_simp
        refine (M3 _ hh1.ar).mono ?_
        rintro e v ⟨rfl, hA, hc⟩
        have hv := hh1.put hA hc
        have hxv := hx1.chg hc (ne_of_types hx1 hh1.ar.row (by decide))
        have hmv := hm1.chg hc hmb
        have hcv := hc1.trans (hc.mono fun k e => .inr e)
        refine hK.out _ _ (⟨hv.blk.cell 0, hxv.cell 0, hxv.cell 1, hxv.cell 2⟩) (fun hS => ?_)
        clear hK K
        try simp only [Act.put, List.setIfInBounds_toArray, List.set_cons_zero, List.set_cons_succ]
        have hc_ : Cnt 7 := trivial
        iterate 4 ((first | (refine takeC hc_ (v := ?_) rfl (by kernel_rfl) (by kernel_rfl) (by kernel_rfl) (fun _ _ _ h => h) (Or.inl ⟨by rfl, ?_⟩) hS ?_; rotate_left; (· (intro y hy; (try dsimp only at hy); go_simp; try with_reducible rfl))) | refine takeC hc_ (v := undef) rfl (by kernel_rfl) (by kernel_rfl) (by kernel_rfl) (fun _ _ _ h => h) (Or.inr ⟨by rfl, rfl⟩) hS ?_); try simp only [Act.put, List.setIfInBounds_toArray, List.set_cons_zero, List.set_cons_succ, List.getElem_toArray, List.append, List.getElem_cons_zero, List.getElem_cons_succ]; replace hc_ := hc_.next; simp only [Nat.reduceAdd] at hc_)
        clear hc_
        obtain ⟨⟨d0, d1, d2⟩, g0, g1, g2⟩ := blk3 hmv
        refine wpAnyH_ready (rs := [12]) (by kernel_rfl) (by simp) ?_
        refine AllReadyH.cons (o := _) rfl (fun K hK => ?_) AllReadyH.nil
        go_simp
        have hcs : Chg (· = x.heap.size) v _ := (((Chg.refl (· = x.heap.size) v).setCell (p := ⟨x.heap.size, 0, none⟩) (.inl rfl) (.int .i64 s.bn)).setCell (p := ⟨x.heap.size, 1, none⟩) (.inl rfl) (.int .i64 s.z)).setCell (p := ⟨x.heap.size, 2, none⟩) (.inl rfl) (.int .i64 tn')
        have hv3 := hv.chg hcs fun k hk e => by subst e; have := hhx.lt (P := P) (b := b) hk; omega
        have hxv3 := hxv.chg hcs fun e => hmq e.symm
        have hm3 : BlkIs _ x.heap.size #[.int .i64 s.bn, .int .i64 s.z, .int .i64 tn'] _ := ((hmv.set 0 (.int .i64 s.bn)).set 1 (.int .i64 s.z)).set 2 (.int .i64 tn')
        have hcv3 := hcv.step hcs fun k e => .inr (by omega)
        refine hK.out _ _ (⟨hv3.blk.cell 0, hxv3.cell 0, hxv3.cell 1, hxv3.cell 2⟩) (fun hS => ?_)
        clear hK K
        try simp only [Act.put, List.setIfInBounds_toArray, List.set_cons_zero, List.set_cons_succ]
        have hc_ : Cnt 13 := trivial
        iterate 2 ((first | (refine takeC hc_ (v := ?_) rfl (by kernel_rfl) (by kernel_rfl) (by kernel_rfl) (fun _ _ _ h => h) (Or.inl ⟨by rfl, ?_⟩) hS ?_; rotate_left; (· (intro y hy; (try dsimp only at hy); go_simp; try with_reducible rfl))) | refine takeC hc_ (v := undef) rfl (by kernel_rfl) (by kernel_rfl) (by kernel_rfl) (fun _ _ _ h => h) (Or.inr ⟨by rfl, rfl⟩) hS ?_); try simp only [Act.put, List.setIfInBounds_toArray, List.set_cons_zero, List.set_cons_succ, List.getElem_toArray, List.append, List.getElem_cons_zero, List.getElem_cons_succ]; replace hc_ := hc_.next; simp only [Nat.reduceAdd] at hc_)
        clear hc_
        refine wpAnyH_done (by kernel_rfl) ?_ _
        refine NoPanic.normal ?_
        go_wp2_with fail
        go_meet
        exact ⟨_, rfl, rfl, rfl, hm3, hxv3, hv3, hcv3⟩
    case rest =>
      obtain ⟨m, rfl, rfl, rfl, hm, hq3, hhr, hcr⟩ := hcut
      clear hx hhx hcx M3
      obtain ⟨⟨d0, d1, d2⟩, _⟩ := blk3 hm
      obtain ⟨⟨f0, f1, f2⟩, _⟩ := blk3 hq3
      by_cases ht : tn' = s.tn
      · have es : s' = { s with l := l' } := by rw [← Hs.out, if_pos ht]
        subst ht
        go_wp2_with fail
        go_ret
        exact ⟨rfl, es.symm ▸ hhr.wentTo hF hcr⟩
      · have es : s' = { s with l := l', ow := s.ow - (tn' - s.tn), pn := s.pn ++ [n], tn := tn' } := by rw [← Hs.out, if_neg ht]
        have hne : ((tn' : Int) = (s.tn : Int)) = False := by simp; omega
        have g1 := g.t1
        have g0 := g.t0
        have hbn : s.bn ≤ 16385 := by have := g.z1; unfold Hp.bn Hp.base; split <;> omega
        have gz := g.z1
        have U1 := used_ok s.bn s.z tn' ⟨by omega, by omega, by omega, by omega⟩
        have U2 := used_ok s.bn s.z s.tn ⟨by omega, by omega, by omega, by omega⟩
        have i1 : IntKind.i64.wrap (((tn' - s.bn : Nat) : Int) - ((s.tn - s.bn : Nat) : Int)) = ((tn' - s.tn : Nat) : Int) := by rw [IntWalk.i64_in _ (by omega)]; omega
        have i2 : IntKind.i64.wrap ((s.ow : Int) - ((tn' - s.tn : Nat) : Int)) = ((s.ow - (tn' - s.tn) : Nat) : Int) := by rw [IntWalk.i64_in _ (by omega)]; omega
        have cow : wc.cell? ⟨H, 11, none⟩ = some (.int .i64 s.ow) := hhr.blk.cell 11
        go_upto_region 6 with fail
        generalize tn' - s.bn = ua at *
        generalize s.tn - s.bn = ub at *
        refine wp_region_noPanic ?_
        refine wp_region_held_drew (S := fun y => (y.cell? ⟨m, 0, none⟩ = some (.int .i64 s.bn) ∧ y.cell? ⟨m, 1, none⟩ = some (.int .i64 s.z) ∧ y.cell? ⟨m, 2, none⟩ = some (.int .i64 tn')) ∧ (y.cell? ⟨q, 0, none⟩ = some (.int .i64 s.bn) ∧ y.cell? ⟨q, 1, none⟩ = some (.int .i64 s.z) ∧ y.cell? ⟨q, 2, none⟩ = some (.int .i64 s.tn))) (by kernel_rfl) ⟨⟨d0, d1, d2⟩, f0, f1, f2⟩ (fun hS => ?_)
        have hc_ : Cnt 0 := trivial
        iterate 3 ((first | (refine takeC hc_ (v := ?_) rfl (by kernel_rfl) (by kernel_rfl) (by kernel_rfl) (fun _ _ _ h => h) (Or.inl ⟨by rfl, ?_⟩) hS ?_; rotate_left; (· (intro y hy; (try dsimp only at hy); go_simp; try with_reducible rfl))) | refine takeC hc_ (v := undef) rfl (by kernel_rfl) (by kernel_rfl) (by kernel_rfl) (fun _ _ _ h => h) (Or.inr ⟨by rfl, rfl⟩) hS ?_); try simp only [Act.put, List.setIfInBounds_toArray, List.set_cons_zero, List.set_cons_succ, List.getElem_toArray, List.append, List.getElem_cons_zero, List.getElem_cons_succ]; replace hc_ := hc_.next; simp only [Nat.reduceAdd] at hc_)
        clear hc_
        have hc_ : Cnt 4 := trivial
        iterate 1 ((first | (refine takeC hc_ (v := ?_) rfl (by kernel_rfl) (by kernel_rfl) (by kernel_rfl) (fun _ _ _ h => h) (Or.inl ⟨by rfl, ?_⟩) hS ?_; rotate_left; (· (intro y hy; (try dsimp only at hy); go_simp; try with_reducible rfl))) | refine takeC hc_ (v := undef) rfl (by kernel_rfl) (by kernel_rfl) (by kernel_rfl) (fun _ _ _ h => h) (Or.inr ⟨by rfl, rfl⟩) hS ?_); try simp only [Act.put, List.setIfInBounds_toArray, List.set_cons_zero, List.set_cons_succ, List.getElem_toArray, List.append, List.getElem_cons_zero, List.getElem_cons_succ]; replace hc_ := hc_.next; simp only [Nat.reduceAdd] at hc_)
        clear hc_
        have hc_ : Cnt 6 := trivial
        iterate 1 ((first | (refine takeC hc_ (v := ?_) rfl (by kernel_rfl) (by kernel_rfl) (by kernel_rfl) (fun _ _ _ h => h) (Or.inl ⟨by rfl, ?_⟩) hS ?_; rotate_left; (· (intro y hy; (try dsimp only at hy); go_simp; try with_reducible rfl))) | refine takeC hc_ (v := undef) rfl (by kernel_rfl) (by kernel_rfl) (by kernel_rfl) (fun _ _ _ h => h) (Or.inr ⟨by rfl, rfl⟩) hS ?_); try simp only [Act.put, List.setIfInBounds_toArray, List.set_cons_zero, List.set_cons_succ, List.getElem_toArray, List.append, List.getElem_cons_zero, List.getElem_cons_succ]; replace hc_ := hc_.next; simp only [Nat.reduceAdd] at hc_)
        clear hc_
        have hh : HeapIn wc.drew H P b v0 v1 v2 v3 { s with l := l' } := hhr.on (Below.refl _ wc).drew
        have hm1 : BlkIs wc.drew m _ _ := hm
        have hq1 : BlkIs wc.drew q _ _ := hq3
        have hc1 := hcr.drew
        clear hhr hm hq3 hcr cow
        refine wpAnyH_ready (rs := [3, 5]) (by kernel_rfl) (by simp) ?_
        refine AllReadyH.cons (o := _) rfl (fun K hK => ?_) (AllReadyH.cons (o := _) rfl (fun K hK => ?_) AllReadyH.nil)
        · have cow := hh.blk.cell 11
          simp only [hpC] at cow
          go_simp
          clear cow
          refine hK.out _ _ (⟨⟨hm1.cell 0, hm1.cell 1, hm1.cell 2⟩, hq1.cell 0, hq1.cell 1, hq1.cell 2⟩) (fun hS => ?_)
          clear hK K
          try simp only [Act.put, List.setIfInBounds_toArray, List.set_cons_zero, List.set_cons_succ]
          refine wpAnyH_ready (rs := [5]) (by kernel_rfl) (by simp) ?_
          refine AllReadyH.cons (o := _) rfl (fun K hK => ?_) AllReadyH.nil
          go_simp
          refine (U1 _).mono ?_
          rintro e vU1 ⟨rfl, hb⟩
          replace hh := hh.on hb
          replace hm1 := hm1.more hb (Nat.le_refl _)
          replace hq1 := hq1.more hb (Nat.le_refl _)
          replace hc1 := hc1.trans (Chg.of_below hb (Nat.le_refl _))
          clear hb
          refine hK.out _ _ (⟨⟨hm1.cell 0, hm1.cell 1, hm1.cell 2⟩, hq1.cell 0, hq1.cell 1, hq1.cell 2⟩) (fun hS => ?_)
          clear hK K
          try simp only [Act.put, List.setIfInBounds_toArray, List.set_cons_zero, List.set_cons_succ]
          refine wpAnyH_ready (rs := [7]) (by kernel_rfl) (by simp) ?_
          refine AllReadyH.cons (o := _) rfl (fun K hK => ?_) AllReadyH.nil
          go_simp
          refine (U2 _).mono ?_
          rintro e vU2 ⟨rfl, hb⟩
          replace hh := hh.on hb
          replace hm1 := hm1.more hb (Nat.le_refl _)
          replace hq1 := hq1.more hb (Nat.le_refl _)
          replace hc1 := hc1.trans (Chg.of_below hb (Nat.le_refl _))
          clear hb
          refine hK.out _ _ (⟨⟨hm1.cell 0, hm1.cell 1, hm1.cell 2⟩, hq1.cell 0, hq1.cell 1, hq1.cell 2⟩) (fun hS => ?_)
          clear hK K
          try simp only [Act.put, List.setIfInBounds_toArray, List.set_cons_zero, List.set_cons_succ]
          have hc_ : Cnt 8 := trivial
          iterate 4 ((first | (refine takeC hc_ (v := ?_) rfl (by kernel_rfl) (by kernel_rfl) (by kernel_rfl) (fun _ _ _ h => h) (Or.inl ⟨by rfl, ?_⟩) hS ?_; rotate_left; (· (intro y hy; (try dsimp only at hy); go_simp; try with_reducible rfl))) | refine takeC hc_ (v := undef) rfl (by kernel_rfl) (by kernel_rfl) (by kernel_rfl) (fun _ _ _ h => h) (Or.inr ⟨by rfl, rfl⟩) hS ?_); try simp only [Act.put, List.setIfInBounds_toArray, List.set_cons_zero, List.set_cons_succ, List.getElem_toArray, List.append, List.getElem_cons_zero, List.getElem_cons_succ]; replace hc_ := hc_.next; simp only [Nat.reduceAdd] at hc_)
          clear hc_
          refine wpAnyH_ready (rs := [12]) (by kernel_rfl) (by simp) ?_
          refine AllReadyH.cons (o := _) rfl (fun K hK => ?_) AllReadyH.nil
          have f11 := hh.blk.free 11
          have cow := hh.blk.cell 11
          simp only [hpC] at cow
          go_simp
          clear cow f11
          have hcs := (Chg.refl (· = H) vU2).setCell (p := ⟨H, 11, none⟩) (.inl rfl) (.int .i64 ((s.ow - (tn' - s.tn) : Nat) : Int))
          have hmH := ne_of_types hm1 hh.blk (by decide)
          have hqH := ne_of_types hq1 hh.blk (by decide)
          have hm2 := hm1.chg hcs hmH
          have hq2 := hq1.chg hcs hqH
          have hh2 : HeapIn _ H P b v0 v1 v2 v3 { s with l := l', ow := s.ow - (tn' - s.tn) } := hh.cells hcs rfl (four rfl rfl rfl rfl) (hh.blk.set 11 _)
          have hc2 := hc1.trans (hcs.mono fun k e => .inl e)
          refine hK.out _ _ (⟨⟨hm2.cell 0, hm2.cell 1, hm2.cell 2⟩, hq2.cell 0, hq2.cell 1, hq2.cell 2⟩) (fun hS => ?_)
          clear hK K
          try simp only [Act.put, List.setIfInBounds_toArray, List.set_cons_zero, List.set_cons_succ]
          refine wpAnyH_done (by kernel_rfl) ?_ _
          refine NoPanic.normal ?_
          obtain ⟨⟨d0, d1, d2⟩, _⟩ := blk3 hm2
          have ML := laid_any hh2 hF g.u01 tn' n g.ln
          go_wp2_with fail
          refine ML.mono ?_
          rintro e v3 ⟨rfl, hW⟩
          go_wp2
          go_ret
          exact ⟨rfl, es.symm ▸ Went.after hc2 (fun k e => e.elim (fun e => hF k (.inl e)) fun e => hF k (.inr (.inr (.inl e)))) hW⟩
        · go_simp
          refine (U1 _).mono ?_
          rintro e vU1 ⟨rfl, hb⟩
          replace hh := hh.on hb
          replace hm1 := hm1.more hb (Nat.le_refl _)
          replace hq1 := hq1.more hb (Nat.le_refl _)
          replace hc1 := hc1.trans (Chg.of_below hb (Nat.le_refl _))
          clear hb
          refine hK.out _ _ (⟨⟨hm1.cell 0, hm1.cell 1, hm1.cell 2⟩, hq1.cell 0, hq1.cell 1, hq1.cell 2⟩) (fun hS => ?_)
          clear hK K
          try simp only [Act.put, List.setIfInBounds_toArray, List.set_cons_zero, List.set_cons_succ]
          refine wpAnyH_ready (rs := [3, 7]) (by kernel_rfl) (by simp) ?_
          refine AllReadyH.cons (o := _) rfl (fun K hK => ?_) (AllReadyH.cons (o := _) rfl (fun K hK => ?_) AllReadyH.nil)
          · have cow := hh.blk.cell 11
            simp only [hpC] at cow
            go_simp
            clear cow
            refine hK.out _ _ (⟨⟨hm1.cell 0, hm1.cell 1, hm1.cell 2⟩, hq1.cell 0, hq1.cell 1, hq1.cell 2⟩) (fun hS => ?_)
            clear hK K
            try simp only [Act.put, List.setIfInBounds_toArray, List.set_cons_zero, List.set_cons_succ]
            refine wpAnyH_ready (rs := [7]) (by kernel_rfl) (by simp) ?_
            refine AllReadyH.cons (o := _) rfl (fun K hK => ?_) AllReadyH.nil
            go_simp
            refine (U2 _).mono ?_
            rintro e vU2 ⟨rfl, hb⟩
            replace hh := hh.on hb
            replace hm1 := hm1.more hb (Nat.le_refl _)
            replace hq1 := hq1.more hb (Nat.le_refl _)
            replace hc1 := hc1.trans (Chg.of_below hb (Nat.le_refl _))
            clear hb
            refine hK.out _ _ (⟨⟨hm1.cell 0, hm1.cell 1, hm1.cell 2⟩, hq1.cell 0, hq1.cell 1, hq1.cell 2⟩) (fun hS => ?_)
            clear hK K
            try simp only [Act.put, List.setIfInBounds_toArray, List.set_cons_zero, List.set_cons_succ]
            have hc_ : Cnt 8 := trivial
            iterate 4 ((first | (refine takeC hc_ (v := ?_) rfl (by kernel_rfl) (by kernel_rfl) (by kernel_rfl) (fun _ _ _ h => h) (Or.inl ⟨by rfl, ?_⟩) hS ?_; rotate_left; (· (intro y hy; (try dsimp only at hy); go_simp; try with_reducible rfl))) | refine takeC hc_ (v := undef) rfl (by kernel_rfl) (by kernel_rfl) (by kernel_rfl) (fun _ _ _ h => h) (Or.inr ⟨by rfl, rfl⟩) hS ?_); try simp only [Act.put, List.setIfInBounds_toArray, List.set_cons_zero, List.set_cons_succ, List.getElem_toArray, List.append, List.getElem_cons_zero, List.getElem_cons_succ]; replace hc_ := hc_.next; simp only [Nat.reduceAdd] at hc_)
            clear hc_
            refine wpAnyH_ready (rs := [12]) (by kernel_rfl) (by simp) ?_
            refine AllReadyH.cons (o := _) rfl (fun K hK => ?_) AllReadyH.nil
            have f11 := hh.blk.free 11
            have cow := hh.blk.cell 11
            simp only [hpC] at cow
            go_simp
            clear cow f11
            have hcs := (Chg.refl (· = H) vU2).setCell (p := ⟨H, 11, none⟩) (.inl rfl) (.int .i64 ((s.ow - (tn' - s.tn) : Nat) : Int))
            have hmH := ne_of_types hm1 hh.blk (by decide)
            have hqH := ne_of_types hq1 hh.blk (by decide)
            have hm2 := hm1.chg hcs hmH
            have hq2 := hq1.chg hcs hqH
            have hh2 : HeapIn _ H P b v0 v1 v2 v3 { s with l := l', ow := s.ow - (tn' - s.tn) } := hh.cells hcs rfl (four rfl rfl rfl rfl) (hh.blk.set 11 _)
            have hc2 := hc1.trans (hcs.mono fun k e => .inl e)
            refine hK.out _ _ (⟨⟨hm2.cell 0, hm2.cell 1, hm2.cell 2⟩, hq2.cell 0, hq2.cell 1, hq2.cell 2⟩) (fun hS => ?_)
            clear hK K
            try simp only [Act.put, List.setIfInBounds_toArray, List.set_cons_zero, List.set_cons_succ]
            refine wpAnyH_done (by kernel_rfl) ?_ _
            refine NoPanic.normal ?_
            obtain ⟨⟨d0, d1, d2⟩, _⟩ := blk3 hm2
            have ML := laid_any hh2 hF g.u01 tn' n g.ln
            go_wp2_with fail
            refine ML.mono ?_
            rintro e v3 ⟨rfl, hW⟩
            go_wp2
            go_ret
            exact ⟨rfl, es.symm ▸ Went.after hc2 (fun k e => e.elim (fun e => hF k (.inl e)) fun e => hF k (.inr (.inr (.inl e)))) hW⟩
          · go_simp
            refine (U2 _).mono ?_
            rintro e vU2 ⟨rfl, hb⟩
            replace hh := hh.on hb
            replace hm1 := hm1.more hb (Nat.le_refl _)
            replace hq1 := hq1.more hb (Nat.le_refl _)
            replace hc1 := hc1.trans (Chg.of_below hb (Nat.le_refl _))
            clear hb
            refine hK.out _ _ (⟨⟨hm1.cell 0, hm1.cell 1, hm1.cell 2⟩, hq1.cell 0, hq1.cell 1, hq1.cell 2⟩) (fun hS => ?_)
            clear hK K
            try simp only [Act.put, List.setIfInBounds_toArray, List.set_cons_zero, List.set_cons_succ]
            have hc_ : Cnt 8 := trivial
            iterate 1 ((first | (refine takeC hc_ (v := ?_) rfl (by kernel_rfl) (by kernel_rfl) (by kernel_rfl) (fun _ _ _ h => h) (Or.inl ⟨by rfl, ?_⟩) hS ?_; rotate_left; (· (intro y hy; (try dsimp only at hy); go_simp; try with_reducible rfl))) | refine takeC hc_ (v := undef) rfl (by kernel_rfl) (by kernel_rfl) (by kernel_rfl) (fun _ _ _ h => h) (Or.inr ⟨by rfl, rfl⟩) hS ?_); try simp only [Act.put, List.setIfInBounds_toArray, List.set_cons_zero, List.set_cons_succ, List.getElem_toArray, List.append, List.getElem_cons_zero, List.getElem_cons_succ]; replace hc_ := hc_.next; simp only [Nat.reduceAdd] at hc_)
            clear hc_
            refine wpAnyH_ready (rs := [3]) (by kernel_rfl) (by simp) ?_
            refine AllReadyH.cons (o := _) rfl (fun K hK => ?_) AllReadyH.nil
            have cow := hh.blk.cell 11
            simp only [hpC] at cow
            go_simp
            clear cow
            refine hK.out _ _ (⟨⟨hm1.cell 0, hm1.cell 1, hm1.cell 2⟩, hq1.cell 0, hq1.cell 1, hq1.cell 2⟩) (fun hS => ?_)
            clear hK K
            try simp only [Act.put, List.setIfInBounds_toArray, List.set_cons_zero, List.set_cons_succ]
            have hc_ : Cnt 9 := trivial
            iterate 3 ((first | (refine takeC hc_ (v := ?_) rfl (by kernel_rfl) (by kernel_rfl) (by kernel_rfl) (fun _ _ _ h => h) (Or.inl ⟨by rfl, ?_⟩) hS ?_; rotate_left; (· (intro y hy; (try dsimp only at hy); go_simp; try with_reducible rfl))) | refine takeC hc_ (v := undef) rfl (by kernel_rfl) (by kernel_rfl) (by kernel_rfl) (fun _ _ _ h => h) (Or.inr ⟨by rfl, rfl⟩) hS ?_); try simp only [Act.put, List.setIfInBounds_toArray, List.set_cons_zero, List.set_cons_succ, List.getElem_toArray, List.append, List.getElem_cons_zero, List.getElem_cons_succ]; replace hc_ := hc_.next; simp only [Nat.reduceAdd] at hc_)
            clear hc_
            refine wpAnyH_ready (rs := [12]) (by kernel_rfl) (by simp) ?_
            refine AllReadyH.cons (o := _) rfl (fun K hK => ?_) AllReadyH.nil
            have f11 := hh.blk.free 11
            have cow := hh.blk.cell 11
            simp only [hpC] at cow
            go_simp
            clear cow f11
            have hcs := (Chg.refl (· = H) vU2).setCell (p := ⟨H, 11, none⟩) (.inl rfl) (.int .i64 ((s.ow - (tn' - s.tn) : Nat) : Int))
            have hmH := ne_of_types hm1 hh.blk (by decide)
            have hqH := ne_of_types hq1 hh.blk (by decide)
            have hm2 := hm1.chg hcs hmH
            have hq2 := hq1.chg hcs hqH
            have hh2 : HeapIn _ H P b v0 v1 v2 v3 { s with l := l', ow := s.ow - (tn' - s.tn) } := hh.cells hcs rfl (four rfl rfl rfl rfl) (hh.blk.set 11 _)
            have hc2 := hc1.trans (hcs.mono fun k e => .inl e)
            refine hK.out _ _ (⟨⟨hm2.cell 0, hm2.cell 1, hm2.cell 2⟩, hq2.cell 0, hq2.cell 1, hq2.cell 2⟩) (fun hS => ?_)
            clear hK K
            try simp only [Act.put, List.setIfInBounds_toArray, List.set_cons_zero, List.set_cons_succ]
            refine wpAnyH_done (by kernel_rfl) ?_ _
            refine NoPanic.normal ?_
            obtain ⟨⟨d0, d1, d2⟩, _⟩ := blk3 hm2
            have ML := laid_any hh2 hF g.u01 tn' n g.ln
            go_wp2_with fail
            refine ML.mono ?_
            rintro e v3 ⟨rfl, hW⟩
            go_wp2
            go_ret
            exact ⟨rfl, es.symm ▸ Went.after hc2 (fun k e => e.elim (fun e => hF k (.inl e)) fun e => hF k (.inr (.inr (.inl e)))) hW⟩
end

end Go.Proofs.YtbjmeibcphmgbaaGreat

namespace Go.Proofs.YtbjmeibcphmgbaaGreat
open Go.ChangeShapes Go.WideShapes Go.ChangeAt Go.RowKit

set_option linter.unusedSimpArgs false
set_option linter.unusedVariables false

/-- A place that may be asked for. -/
def InOk (s : Hp) (p : Nat) : Prop := p = 0 ∨ p ∈ s.pn ∨ p ∈ s.pk
theorem Okw.moved_live {s : Hp} (h : Okw s) {p : Nat} (hp : p ∈ s.pk) (ho : isOb s.l p) : s.moved p = s.go p ∧ s.movV p = s.tn := by
  unfold Hp.moved Hp.movV
  have := ho.odd
  exact ⟨if_pos ⟨hp, this⟩, by rw [if_pos hp, if_pos this]⟩
section
variable {s : Hp} (h : Okw s) {p : Nat}
include h
theorem Okw.mvOf (hp : p ∈ s.pk) : s.mv = true := by
  cases e : s.mv
  · rw [(h.stop e).1] at hp; simp at hp
  · rfl
theorem Okw.alive (hp : p ∈ s.pk) : isOb s.l p ∨ (¬ isOb s.l p ∧ hdW s.l p % 2 = 0 ∧ ∃ n ∈ s.pn, s.l.getD p 0 = ((2 + n * 4 : Nat) : Int) ∧ hdW s.l p / 4 = n ∧ fwd s.l p = n) := by
  rcases (h.ink p hp).2.2 with ⟨e, _⟩ | ⟨n, hn, e⟩
  · exact .inl e
  · have g := gone_fwd e
    exact .inr ⟨g.2.2, g.2.1, n, hn, e, by rw [gone_hdW e]; omega, g.1⟩
theorem Okw.odd_iff (hp : p ∈ s.pk) : hdW s.l p % 2 = 1 ↔ isOb s.l p := by
  rcases h.alive hp with e | ⟨e, e2, _⟩
  · exact ⟨fun _ => e, fun _ => e.odd⟩
  · exact ⟨fun h => by omega, fun h => absurd h e⟩
theorem Okw.moved_gone (hp : p ∈ s.pk) (ho : ¬ isOb s.l p) : s.moved p = s ∧ s.movV p = fwd s.l p ∧ s.movV p ∈ s.pn := by
  rcases h.alive hp with e | ⟨_, e2, n, hn, e3, e4, e5⟩
  · exact absurd e ho
  · unfold Hp.moved Hp.movV
    have e6 : ¬ hdW s.l p % 2 = 1 := by omega
    rw [if_pos hp, if_neg e6, e4, e5]
    exact ⟨if_neg fun e => e6 e.2, rfl, hn⟩
end
section
variable {s : Hp} (h : Ok s) {p : Nat}
include h
theorem Ok.moved (q : Nat) : Ok (s.moved q) := by
  by_cases hp : q ∈ s.pk
  · by_cases ho : isOb s.l q
    · rw [(h.moved_live hp ho).1]; exact h.go hp ho (h.mvOf hp)
    · rw [(h.moved_gone hp ho).1]; exact h
  · have : s.moved q = s := if_neg fun e => hp e.1
    rw [this]; exact h
end
theorem movV_out {s : Hp} {p : Nat} (hp : p ∉ s.pk) : s.moved p = s ∧ s.movV p = p := ⟨if_neg fun e => hp e.1, if_neg hp⟩
theorem moved_pn (s : Hp) (p : Nat) {x : Nat} (hx : x ∈ s.pn) : x ∈ (s.moved p).pn := by
  unfold Hp.moved
  split
  · exact List.mem_append_left _ hx
  · exact hx
theorem moved_same (s : Hp) (p : Nat) : (s.moved p).pk = s.pk ∧ (s.moved p).mv = s.mv ∧ (s.moved p).u = s.u ∧ (s.moved p).z = s.z ∧ (s.moved p).sc = s.sc ∧ (s.moved p).se = s.se ∧ (s.moved p).wk = s.wk ∧ (s.moved p).fi = s.fi ∧ (s.moved p).tk = s.tk := by
  unfold Hp.moved
  split <;> exact ⟨rfl, rfl, rfl, rfl, rfl, rfl, rfl, rfl, rfl⟩
theorem inOk_moved {s : Hp} {p q : Nat} (hq : InOk s q) : InOk (s.moved p) q := hq.imp id fun e => e.imp (moved_pn s p) fun e => by rw [(moved_same s p).1]; exact e
section
variable {s : Hp} (h : Ok s) {p : Nat}
include h
theorem Ok.movV_in (hp : InOk s p) : s.movV p = 0 ∧ p = 0 ∨ s.movV p ∈ (s.moved p).pn := by
  by_cases hk : p ∈ s.pk
  · by_cases ho : isOb s.l p
    · rw [(h.moved_live hk ho).1, (h.moved_live hk ho).2]
      exact .inr (List.mem_append_right _ (by simp))
    · have g := h.moved_gone hk ho
      rw [g.1]
      exact .inr g.2.2
  · rw [(movV_out hk).1, (movV_out hk).2]
    rcases hp with e | e | e
    · exact .inl ⟨e, e⟩
    · exact .inr e
    · exact absurd e hk
theorem Ok.movV_le (hp : InOk s p) : s.movV p ≤ 131072 := by
  have h1 := h.len
  have h2 := h.z1
  rcases h.movV_in hp with ⟨e, _⟩ | e
  · omega
  · have := ((h.moved p).pn_lt e).2.2
    have h3 := (h.moved p).len
    rw [(moved_same s p).2.2.2.1] at h3
    omega
theorem movedH {w : World} {K : Nat → Prop} {H : Nat} (hw : HeapAt w K H s) (hin : InOk s p) :
    Calls Tryz.prog 17 #[.pointer (some ⟨H, 0, none⟩), .int .i64 p] w fun e w' => e = .returned (.int .i64 (s.movV p)) ∧ Went w K H (s.moved p) w' := by
  obtain ⟨P, b, v0, v1, v2, v3, hi, hF⟩ := hw
  by_cases hk : p ∈ s.pk
  · by_cases ho : isOb s.l p
    · have g := h.go_place hk ho
      have hf := h.fits hk ho
      have hb := h.bases
      have h1 := h.z1
      have hy := szA_pos (l := s.l) (a := p)
      have M := moved_yes hi hF h.sound p s.tn (s.tn + szA s.l p) (s.go p).l hk (h.go_len hk ho) ⟨by omega, by omega⟩ fun x hx =>
        copy_yes p s.bn s.z s.tn x hx ho.of ⟨by omega, by omega, by omega, by omega⟩ (by omega) hf.1 (by have e : nA s.l p = 3 + hp (hdW s.l p) + hd (hdW s.l p) := rfl; omega)
      rw [if_neg (by omega)] at M
      rw [(h.moved_live hk ho).1, (h.moved_live hk ho).2]
      have e : s.tn + szA s.l p - s.tn = szA s.l p := by omega
      rw [e] at M
      exact M
    · rcases h.alive hk with e | ⟨_, e2, n, hn, e3, e4, e5⟩
      · exact absurd e ho
      · have hk1 := h.pk_lt hk
        have hn1 := h.pn_lt hn
        have h1 := h.z1
        have h2 := h.len
        have M := moved_yes hi hF h.sound p n s.tn s.l hk rfl ⟨Nat.le_refl _, by omega⟩ fun x hx => (copy_gone p n s.bn s.z s.tn x hx hk1.2 hn1.1 (by omega) e3).mono fun e x' ⟨a1, a2⟩ => ⟨a1, hx.below a2 hx.lt.1 hx.lt.2, Chg.of_below a2 (Nat.le_refl _)⟩
        rw [if_pos rfl] at M
        rw [(h.moved_gone hk ho).1, (h.moved_gone hk ho).2.1, e5]
        exact M
  · rw [(movV_out hk).1, (movV_out hk).2]
    exact (moved_no hi h.sound p hk).mono fun e x ⟨a1, a2⟩ => ⟨a1, Went.of_below ⟨P, b, v0, v1, v2, v3, hi, hF⟩ a2⟩
end

end Go.Proofs.YtbjmeibcphmgbaaGreat

namespace Go.Proofs.YtbjmeibcphmgbaaGreat
open Go.ChangeShapes Go.WideShapes Go.ChangeAt Go.RowKit

set_option linter.unusedSimpArgs false
set_option linter.unusedVariables false

set_option maxRecDepth 100000 in
set_option maxHeartbeats 2000000 in
theorem arePtrs_yes (v : Value) (vs : List Nat) (w : World) (hv : ReadsAs .i64 w v (nums vs)) (hb : ∀ x ∈ vs, x ≤ 131072) :
    Calls Tryz.prog 89 #[v] w fun e w' => e = .returned (.bool true) ∧ Below w.heap.size w w' := by
  obtain ⟨va, vc, rfl, hr⟩ := hv.slice
  have HR := Lib.hid hr
  have HB := Lib.hid hb
  have hm := hv.1
  unfold maxLen at hm
  clear hr hv hb
  rw [nums_length] at hm
  obtain ⟨n, hn⟩ : ∃ n, vs.length = n := ⟨_, rfl⟩
  have Hn := Lib.hid hn
  rw [nums_length, hn]
  rw [hn] at hm
  clear hn
  go_enter Tryz.func89, Tryz.ntmps89
  go_wp2
  go_loopw [7] (fun i wr => ∃ k : Nat, k ≤ n ∧ i = .int .i64 k ∧ Below w.heap.size w wr) (fun i _ => n - (intOf i).toNat)
  case atStart => exact ⟨0, by omega, rfl, Below.refl _ _⟩
  case round =>
    obtain ⟨k, hk, rfl, hB⟩ := hrel
    by_cases hlt : k < n
    · obtain ⟨g, e, hg, hc, hcell⟩ := HR.out (by rw [nums_length, Hn.out]; omega)
      subst e
      have c0 := (hB.cell (p := ⟨g, k, none⟩) hg).trans (hcell k (by rw [nums_length, Hn.out]; omega))
      rw [nums_getD (by rw [Hn.out]; omega)] at c0
      have hq : vs.getD k 0 ≤ 131072 := HB.out _ (by
        rw [List.getD_eq_getElem?_getD, List.getElem?_eq_getElem (by rw [Hn.out]; omega)]
        exact List.getElem_mem _)
      generalize vs.getD k 0 = q at *
      have b0 : (0 : Int) ≤ (k : Int) := by omega
      have b1 : (k : Int) < (n : Int) := by omega
      have d0 : decide ((q : Int) < 0) = false := decide_eq_false (by omega)
      have d1 : decide ((131072 : Int) < (q : Int)) = false := decide_eq_false (by omega)
      have d2 : decide (131072 < q) = false := decide_eq_false (by omega)
      clear hcell HR
      go_wp2
      go_roundw
      case rel => exact ⟨k + 1, by omega, by go_num, hB⟩
      case measure => simp [intOf]; omega
    · obtain rfl : k = n := by omega
      go_wp2
      go_ret
      exact ⟨rfl, hB⟩

/-- What is laid over an object's pointers. -/
def setP (l : List Int) (a : Nat) (vs : List Nat) : List Int := layL l (a + 3) (fun i => ((vs.getD i 0 : Nat) : Int)) vs.length
theorem setP_length (l : List Int) (a : Nat) (vs : List Nat) : (setP l a vs).length = l.length := layL_length ..
theorem setP_at {l : List Int} {a j : Nat} {vs : List Nat} (h : j < l.length) : (setP l a vs).getD j 0 = if a + 3 ≤ j ∧ j < a + 3 + vs.length then ((vs.getD (j - (a + 3)) 0 : Nat) : Int) else l.getD j 0 := layL_at _ _ _ _ _ h

section
variable {P b : Nat} {l : List Int} {p d : Nat} {wk fn fr : Bool}
set_option maxRecDepth 100000 in
set_option maxHeartbeats 2000000 in
theorem setStrong_at (a : Nat) (v : Value) (vs : List Nat) (w : World) (h : ArenaAt 146 w P b l) (o : ObjIs l a p d wk fn fr) (hn : vs.length = if wk then 0 else p) (hv : ReadsAs .i64 w v (nums vs)) (hvb : v.ownBlock ≠ some b) (hb : ∀ x ∈ vs, x ≤ 131072) :
    Calls Tryz.prog 55 #[.pointer (some ⟨P, 0, none⟩), .int .i64 a, v] w fun e w' => e = .returned (.int .i64 0) ∧ ArenaAt 146 w' P b (setP l a vs) ∧ Chg (· = b) w w' := by
  have HC := strong_count a w h o
  rw [← hn] at HC
  have HA := fun x (hx : Below w.heap.size w x) => arePtrs_yes v vs x (hv.below hx) hb
  have hnp : vs.length ≤ p := by rw [hn]; split <;> omega
  have hp8 := o.ptrs
  have hlt := h.lt
  obtain ⟨va, vc, rfl, hr⟩ := hv.slice
  have HR := Lib.hid hr
  have HB := Lib.hid hb
  clear hr hb
  unfold setP
  obtain ⟨n, hn'⟩ : ∃ n, vs.length = n := ⟨_, rfl⟩
  have Hn := Lib.hid hn'
  rw [hn'] at HC hnp ⊢
  rw [nums_length, hn'] at HA ⊢
  clear hn hn'
  have hvb' : 0 < n → ∀ g, va = some ⟨g, 0, none⟩ → g ≠ b := fun _ g e eb => by
    subst e; subst eb
    exact hvb rfl
  have HVB := Lib.hid hvb'
  clear hvb' hvb
  have key : ∀ k, layL l (a + 3) (fun i => ((vs.getD i 0 : Nat) : Int)) (k + 1) = (layL l (a + 3) (fun i => ((vs.getD i 0 : Nat) : Int)) k).set (a + (3 + k)) ((vs.getD k 0 : Nat) : Int) := fun k => by
    show (layL _ _ _ k).set (a + 3 + k) _ = _
    rw [Nat.add_assoc]
  have hob : ∀ k, ObjIs (layL l (a + 3) (fun i => ((vs.getD i 0 : Nat) : Int)) k) a p d wk fn fr := fun k => o.same (layL_length ..) (by
    have := o.room
    rw [layL_at _ _ _ _ _ (by omega), if_neg (by omega)])
  have Hkey := Lib.hid key
  have Hob := Lib.hid hob
  clear key hob
  generalize hL : layL l (a + 3) (fun i => ((vs.getD i 0 : Nat) : Int)) = L at *
  have hL0 : L 0 = l := by rw [← hL]; rfl
  clear hL
  go_enter Tryz.func55, Tryz.ntmps55
  go_wp2_with fail
  refine HC.mono ?_
  rintro e x ⟨rfl, hx⟩
  go_wp2_with fail
  refine (HA _ hx).mono ?_
  rintro e y ⟨rfl, hy⟩
  replace hy := hx.trans (hy.mono hx.size)
  clear HC HA hx x
  go_wp2
  go_loopw [31] (fun i wr => ∃ k : Nat, k ≤ n ∧ i = .int .i64 k ∧ ArenaAt 146 wr P b (L k) ∧ Chg (· = b) w wr) (fun i _ => n - (intOf i).toNat)
  case atStart => exact ⟨0, by omega, rfl, by rw [hL0]; exact h.below hy hlt.1 hlt.2, Chg.of_below hy (Nat.le_refl _)⟩
  case round =>
    obtain ⟨k, hk, rfl, hA, hC⟩ := hrel
    by_cases hlt : k < n
    · obtain ⟨g, e, hg, hc, hcell⟩ := HR.out (by rw [nums_length, Hn.out]; omega)
      subst e
      have c0 := (hC.cell (p := ⟨g, k, none⟩) hg (HVB.out (by omega) g rfl)).trans (hcell k (by rw [nums_length, Hn.out]; omega))
      rw [nums_getD (by rw [Hn.out]; omega)] at c0
      have hq : vs.getD k 0 ≤ 131072 := HB.out _ (by
        rw [List.getD_eq_getElem?_getD, List.getElem?_eq_getElem (by rw [Hn.out]; omega)]
        exact List.getElem_mem _)
      have hkk := Hkey.out k
      have M := setPtr_at a k (vs.getD k 0) wr hA (Hob.out k) (by omega) hq
      rw [← hkk] at M
      have b0 : (0 : Int) ≤ (k : Int) := by omega
      have b1 : (k : Int) < (n : Int) := by omega
      clear hkk hcell HR hv
      generalize vs.getD k 0 = q at *
      go_wp2_with fail
      refine M.mono ?_
      rintro e z ⟨rfl, hA2, hC2⟩
      go_wp2
      go_roundw
      case rel => exact ⟨k + 1, by omega, by go_num, hA2, hC.trans hC2⟩
      case measure => simp [intOf]; omega
    · obtain rfl : k = n := by omega
      go_wp2
      go_ret
      exact ⟨rfl, hA, hC⟩
end

end Go.Proofs.YtbjmeibcphmgbaaGreat

namespace Go.Proofs.YtbjmeibcphmgbaaGreat
open Go.ChangeShapes Go.WideShapes Go.ChangeAt Go.RowKit

set_option linter.unusedSimpArgs false
set_option linter.unusedVariables false

theorem movedL_cons (s : Hp) (p : Nat) (ps : List Nat) : s.movedL (p :: ps) = (s.moved p).movedL ps := rfl
theorem movedL_snoc (s : Hp) (p : Nat) (ps : List Nat) : s.movedL (ps ++ [p]) = (s.movedL ps).moved p := by unfold Hp.movedL; rw [List.foldl_append]; rfl
theorem movVL_length (s : Hp) (ps : List Nat) : (s.movVL ps).length = ps.length := by
  induction ps generalizing s with
  | nil => rfl
  | cons p ps ih => show ((s.moved p).movVL ps).length + 1 = _; rw [ih]; rfl
theorem movVL_snoc (s : Hp) (p : Nat) (ps : List Nat) : s.movVL (ps ++ [p]) = s.movVL ps ++ [(s.movedL ps).movV p] := by
  induction ps generalizing s with
  | nil => rfl
  | cons q ps ih => show s.movV q :: (s.moved q).movVL (ps ++ [p]) = _; rw [ih]; rfl
theorem movedL_pn (s : Hp) (ps : List Nat) {x : Nat} (hx : x ∈ s.pn) : x ∈ (s.movedL ps).pn := by
  induction ps generalizing s with
  | nil => exact hx
  | cons p ps ih => exact ih (s.moved p) (moved_pn s p hx)
theorem movedL_same (s : Hp) (ps : List Nat) : (s.movedL ps).pk = s.pk ∧ (s.movedL ps).mv = s.mv ∧ (s.movedL ps).u = s.u ∧ (s.movedL ps).z = s.z ∧ (s.movedL ps).sc = s.sc ∧ (s.movedL ps).se = s.se ∧ (s.movedL ps).wk = s.wk ∧ (s.movedL ps).fi = s.fi ∧ (s.movedL ps).tk = s.tk := by
  induction ps generalizing s with
  | nil => exact ⟨rfl, rfl, rfl, rfl, rfl, rfl, rfl, rfl, rfl⟩
  | cons p ps ih =>
    obtain ⟨a1, a2, a3, a4, a5, a6, a7, a8, a9⟩ := ih (s.moved p)
    obtain ⟨b1, b2, b3, b4, b5, b6, b7, b8, b9⟩ := moved_same s p
    exact ⟨a1.trans b1, a2.trans b2, a3.trans b3, a4.trans b4, a5.trans b5, a6.trans b6, a7.trans b7, a8.trans b8, a9.trans b9⟩
theorem inOk_movedL {s : Hp} (ps : List Nat) {q : Nat} (hq : InOk s q) : InOk (s.movedL ps) q := by
  induction ps generalizing s with
  | nil => exact hq
  | cons p ps ih => exact ih (inOk_moved hq)
theorem Ok.movedL {s : Hp} (h : Ok s) (ps : List Nat) : Ok (s.movedL ps) := by
  induction ps generalizing s with
  | nil => exact h
  | cons p ps ih => exact ih (h.moved p)
theorem Ok.moved_word {s : Hp} (h : Ok s) (p : Nat) {x t : Nat} (hx : x ∈ s.pn) (ht : t < nA s.l x) : (s.moved p).l.getD (x + t) 0 = s.l.getD (x + t) 0 := by
  by_cases hk : p ∈ s.pk
  · by_cases ho : isOb s.l p
    · rw [(h.moved_live hk ho).1]; exact h.go_pn hk ho hx ht
    · rw [(h.moved_gone hk ho).1]
  · rw [(movV_out hk).1]
theorem Ok.moved_head {s : Hp} (h : Ok s) (p : Nat) {x : Nat} (hx : x ∈ s.pn) : (s.moved p).l.getD x 0 = s.l.getD x 0 := by
  have := ((h.inn x hx).2.1).nA_le
  exact h.moved_word p (t := 0) hx (by omega)
/-- What is in the space in use keeps its words. -/
theorem Ok.movedL_word {s : Hp} (h : Ok s) (ps : List Nat) {x t : Nat} (hx : x ∈ s.pn) (ht : t < nA s.l x) : (s.movedL ps).l.getD (x + t) 0 = s.l.getD (x + t) 0 := by
  induction ps generalizing s with
  | nil => rfl
  | cons p ps ih =>
    rw [movedL_cons, ih (h.moved p) (moved_pn s p hx) (by rw [nA_congr (h.moved_head p hx)]; exact ht)]
    exact h.moved_word p hx ht
theorem Ok.movedL_head {s : Hp} (h : Ok s) (ps : List Nat) {x : Nat} (hx : x ∈ s.pn) : (s.movedL ps).l.getD x 0 = s.l.getD x 0 := by
  have := ((h.inn x hx).2.1).nA_le
  exact h.movedL_word ps (t := 0) hx (by omega)
/-- What each is now: nothing, or what is in the space in use. -/
theorem Ok.movVL_in {s : Hp} (h : Ok s) (ps : List Nat) (hp : ∀ p ∈ ps, InOk s p) : ∀ v ∈ s.movVL ps, v = 0 ∨ v ∈ (s.movedL ps).pn := by
  induction ps generalizing s with
  | nil => intro v hv; exact absurd hv (by simp [Hp.movVL])
  | cons p ps ih =>
    intro v hv
    have hv' : v ∈ s.movV p :: (s.moved p).movVL ps := hv
    rcases List.mem_cons.1 hv' with rfl | hv'
    · rcases h.movV_in (hp p List.mem_cons_self) with ⟨e, _⟩ | e
      · exact .inl e
      · exact .inr (movedL_pn (s.moved p) ps e)
    · exact ih (h.moved p) (fun q hq => inOk_moved (hp q (List.mem_cons_of_mem _ hq))) v hv'
theorem Okw.pn_le {s : Hp} (h : Okw s) {v : Nat} (hv : v = 0 ∨ v ∈ s.pn) : v ≤ 131072 := by
  rcases hv with e | e
  · omega
  · have := (h.pn_lt e).2.2
    have := h.len; have := h.z1
    omega

/-- The strong pointers of the object at a place. -/
def nSt (l : List Int) (a : Nat) : Nat := if hw (hdW l a) then 0 else hp (hdW l a)
def stP (l : List Int) (a : Nat) : List Nat := (ptrL l a (nSt l a)).map Int.toNat
theorem stP_length (l : List Int) (a : Nat) : (stP l a).length = nSt l a := by unfold stP; rw [List.length_map, ptrL_length]
theorem Okw.stP_in {s : Hp} (h : Okw s) {x : Nat} (hx : Live s x) : ∀ p ∈ stP s.l x, InOk s p := by
  intro p hp'
  obtain ⟨v, hv, rfl⟩ := List.mem_map.1 hp'
  obtain ⟨i, hi, rfl⟩ := mem_ptrL hv
  rcases h.ptr x hx i (by revert hi; unfold nSt; split <;> omega) with e | ⟨y, e, hy⟩
  · rw [e]; exact .inl rfl
  · rw [e, Int.toNat_natCast]; exact .inr hy
theorem Okw.stP_nums {s : Hp} (h : Okw s) {x : Nat} (hx : Live s x) : nums (stP s.l x) = ptrL s.l x (nSt s.l x) := by
  unfold nums stP
  rw [List.map_map]
  refine (List.map_congr_left fun v hv => ?_).trans (List.map_id _)
  obtain ⟨i, hi, rfl⟩ := mem_ptrL hv
  rcases h.ptr x hx i (by revert hi; unfold nSt; split <;> omega) with e | ⟨y, e, hy⟩
  · rw [e]; rfl
  · rw [e]; rfl
/-- The next object is scanned. -/
def Hp.scan (s : Hp) : Hp := { s.movedL (stP s.l s.sc) with l := setP (s.movedL (stP s.l s.sc)).l s.sc (s.movVL (stP s.l s.sc)), sc := s.sc + szA s.l s.sc }

end Go.Proofs.YtbjmeibcphmgbaaGreat

namespace Go.Proofs.YtbjmeibcphmgbaaGreat
open Go.ChangeShapes Go.WideShapes Go.ChangeAt Go.RowKit

set_option linter.unusedSimpArgs false
set_option linter.unusedVariables false

/-- The head at a place is as it was, but for whether it is freed. -/
def HeadLike (l l' : List Int) (x : Nat) : Prop := l'.getD x 0 = l.getD x 0 ∨ (isOb l x ∧ isOb l' x ∧ hp (hdW l' x) = hp (hdW l x) ∧ hd (hdW l' x) = hd (hdW l x) ∧ hw (hdW l' x) = hw (hdW l x) ∧ hf (hdW l' x) = hf (hdW l x))
section
variable {l l' : List Int} {x : Nat} (hl : l'.length = l.length) (h : HeadLike l l' x)
include h
theorem HeadLike.fields : hp (hdW l' x) = hp (hdW l x) ∧ hd (hdW l' x) = hd (hdW l x) ∧ hw (hdW l' x) = hw (hdW l x) ∧ hf (hdW l' x) = hf (hdW l x) := by
  rcases h with e | ⟨_, _, e⟩
  · rw [hdW_congr e]; exact ⟨rfl, rfl, rfl, rfl⟩
  · exact e
theorem HeadLike.nA : nA l' x = nA l x := by
  have := h.fields
  unfold Go.Proofs.YtbjmeibcphmgbaaGreat.nA
  rw [this.1, this.2.1]
theorem HeadLike.szA : szA l' x = szA l x := by unfold Go.Proofs.YtbjmeibcphmgbaaGreat.szA; rw [h.nA]
theorem HeadLike.odd : hdW l' x % 2 = hdW l x % 2 := by
  rcases h with e | ⟨e1, e2, _⟩
  · rw [hdW_congr e]
  · rw [e1.odd, e2.odd]
theorem HeadLike.fwd : fwd l' x = fwd l x := by
  rcases h with e | ⟨e1, e2, _⟩
  · exact fwd_congr e
  · rw [e1.fwd, e2.fwd]
include hl
theorem HeadLike.ob : isOb l' x ↔ isOb l x := by
  rcases h with e | ⟨e1, e2, _⟩
  · exact isOb_congr hl e
  · exact ⟨fun _ => e1, fun _ => e2⟩
end

theorem Okw.rewrite {s : Hp} (h : Okw s) (l' : List Int) (sc' : Nat) (hl : l'.length = s.l.length) (h0 : l'.getD 0 0 = 0) (hh : ∀ x, x ∈ s.pn ∨ x ∈ s.pk → HeadLike s.l l' x) (hs : ∀ x, Live s x → l'.getD (x + 2) 0 = s.l.getD (x + 2) 0)
    (hp' : ∀ x, Live s x → ∀ i, i < hp (hdW s.l x) → PtrOk s (l'.getD (x + (3 + i)) 0)) (hb : s.mv = true → ∀ x ∈ s.pn, x < sc' → hw (hdW s.l x) = false → ∀ i, i < hp (hdW s.l x) → l'.getD (x + (3 + i)) 0 = 0 ∨ ∃ y ∈ s.pn, l'.getD (x + (3 + i)) 0 = ((y : Nat) : Int))
    (hc : s.mv = true → sc' = s.tn ∨ sc' ∈ s.pn) : Okw { s with l := l', sc := sc' } := by
  have hlive : ∀ x, Live { s with l := l', sc := sc' } x ↔ Live s x := fun x => by
    unfold Live
    refine or_congr Iff.rfl (and_congr_right fun hx => ?_)
    exact (hh x (.inr hx)).ob hl
  have hinn : ∀ x, Live s x → x ∈ s.pn ∨ x ∈ s.pk := fun x hx => hx.imp id fun e => e.1
  have hfwd : ∀ a, (a ∈ s.pn ∨ a ∈ s.pk) → (fwd s.l a ∈ s.pn ∨ fwd s.l a ∈ s.pk) := fun a ha => by
    rcases ha with e | e
    · rw [((h.inn a e).2.1).fwd]; exact .inl e
    · rcases h.alive e with e1 | ⟨_, _, n, hn, _, _, e5⟩
      · rw [e1.fwd]; exact .inr e
      · rw [e5]; exact .inl hn
  refine ⟨h.u01, h.z0, h.z1, hl.trans h.len, h0, h.k0, h.k1, h.room, ?_, ?_, fun x hx => ?_, fun x hx => ?_, ?_, ?_, h.fst, fun x hx => ?_, h.stop, h.sel, fun x hx => ?_, fun x hx i hi => ?_, fun hm x hx hlt hwk i hi => ?_, hc, fun a ha => ?_, fun x hx hwk => ?_, h.fin, h.wkl, h.fil⟩
  · rw [h.sum]
    exact congrArg _ (sum_congr fun x hx => ((hh x (.inl hx)).szA).symm)
  · rw [h.owe]
    refine sum_congr fun x hx => ?_
    unfold ows
    rw [(hh x (.inr hx)).odd, (hh x (.inr hx)).szA]
  · obtain ⟨a1, a2, a3⟩ := h.inn x hx
    exact ⟨a1, ((hh x (.inl hx)).ob hl).2 a2, by rw [(hh x (.inl hx)).szA]; exact a3⟩
  · obtain ⟨a1, a2, a3⟩ := h.ink x hx
    refine ⟨a1, a2, ?_⟩
    rcases a3 with ⟨b1, b2⟩ | ⟨n, hn, b1⟩
    · exact .inl ⟨((hh x (.inr hx)).ob hl).2 b1, by rw [(hh x (.inr hx)).szA]; exact b2⟩
    · refine .inr ⟨n, hn, ?_⟩
      rcases hh x (.inr hx) with e | ⟨e, _⟩
      · exact e.trans b1
      · exact absurd e (gone_fwd b1).2.2
  · exact pairwise_congr h.srn fun x hx y hy e => by rw [(hh x (.inl hx)).szA]; exact e
  · exact pairwise_congr h.srk fun x hx y hy e => ⟨e.1, fun ho => by rw [(hh x (.inr hx)).szA]; exact e.2 (((hh x (.inr hx)).ob hl).1 ho)⟩
  · rw [(hh x (.inl hx)).szA]; exact h.nxt x hx
  · have hx' := (hlive x).1 hx
    rw [hs x hx']; exact h.ser x hx'
  · have hx' := (hlive x).1 hx
    rw [(hh x (hinn x hx')).fields.1] at hi
    exact hp' x hx' i hi
  · rw [(hh x (.inl hx)).fields.1] at hi
    rw [(hh x (.inl hx)).fields.2.2.1] at hwk
    exact hb hm x hx hlt hwk i hi
  · obtain ⟨a1, a2⟩ := h.wks a ha
    refine ⟨a1, ?_⟩
    show hw (hdW l' (fwd l' a)) = true
    rw [(hh a a1).fwd, (hh _ (hfwd a a1)).fields.2.2.1]
    exact a2
  · rw [(hh x (.inl hx)).fields.2.2.1] at hwk
    obtain ⟨a, ha, e⟩ := h.wka x hx hwk
    exact ⟨a, ha, by show fwd l' a = x; rw [(hh a (h.wks a ha).1).fwd]; exact e⟩

/-- Two live objects, or a live one and a place, are apart. -/
theorem Okw.live_apart {s : Hp} (h : Okw s) {x y t : Nat} (hx : Live s x) (hy : y ∈ s.pn ∨ y ∈ s.pk) (hne : x ≠ y) (ht : t < nA s.l x) : x + t ≠ y ∧ (isOb s.l y → ∀ r, r < nA s.l y → x + t ≠ y + r) := by
  have hox := h.live_ob hx
  have h1 := hox.nA_le
  have hb := h.bases
  have hr := h.room
  have hk := h.k1
  have hyr : isOb s.l y → 3 ≤ nA s.l y ∧ nA s.l y ≤ szA s.l y := fun e => ⟨e.nA_le.1, e.nA_le.2.2.1⟩
  have inn := fun a (ha : a ∈ s.pn) => h.inn a ha
  have ink : ∀ a, a ∈ s.pk → s.bk ≤ a ∧ a < s.tk ∧ (isOb s.l a → a + szA s.l a ≤ s.tk) := fun a ha => by
    obtain ⟨a1, a2, a3⟩ := h.ink a ha
    refine ⟨a1, a2, fun ho => ?_⟩
    rcases a3 with ⟨_, a3⟩ | ⟨n, _, a3⟩
    · exact a3
    · exact absurd ho (gone_fwd a3).2.2
  rcases hx with hx | ⟨hx, _⟩ <;> rcases hy with hy | hy
  · have e1 := inn x hx
    have e2 := inn y hy
    have e3 := e2.2.1.nA_le
    rcases pairwise_get h.srn hx hy with e | e | e
    · exact absurd e hne
    · exact ⟨by omega, fun _ r hr => by omega⟩
    · exact ⟨by omega, fun _ r hr => by omega⟩
  · have e1 := inn x hx
    have e2 := ink y hy
    refine ⟨by omega, fun ho r hr => ?_⟩
    have := hyr ho; have := e2.2.2 ho
    omega
  · have e1 := ink x hx
    have e2 := inn y hy
    have e3 := e1.2.2 hox
    have e4 := e2.2.1.nA_le
    exact ⟨by omega, fun _ r hr => by omega⟩
  · have e1 := ink x hx
    have e2 := ink y hy
    have e3 := e1.2.2 hox
    rcases pairwise_get h.srk hx hy with e | e | e
    · exact absurd e hne
    · have := e.2 hox
      exact ⟨by omega, fun _ r hr => by omega⟩
    · refine ⟨by omega, fun ho r hr => ?_⟩
      have := e.2 ho; have := hyr ho
      omega

/-- A word of an object that is here is set: its second one, a number, or a pointer that may be. -/
theorem Okw.put {s : Hp} (h : Okw s) {x t : Nat} {v : Int} (hx : x ∈ s.pn) (ht : t < nA s.l x) (h1 : t = 1 ∨ 3 ≤ t) (hv : 3 ≤ t → t < 3 + hp (hdW s.l x) → PtrOk s v) (hb : s.mv = true → x < s.sc → hw (hdW s.l x) = false → 3 ≤ t → t < 3 + hp (hdW s.l x) → v = 0 ∨ ∃ y ∈ s.pn, v = ((y : Nat) : Int)) :
    Okw (s.put (x + t) v) := by
  have hob := (h.inn x hx).2.1
  have hn := hob.nA_le
  have key : ∀ j, j < s.l.length → (s.l.set (x + t) v).getD j 0 = if j = x + t then v else s.l.getD j 0 := fun j hj => set_at' hj
  have hlx := h.pn_lt hx
  have hword : ∀ y r, Live s y → r < nA s.l y → (s.l.set (x + t) v).getD (y + r) 0 = if y = x ∧ r = t then v else s.l.getD (y + r) 0 := fun y r hy hr => by
    have := (h.live_ob hy).nA_le
    rw [key _ (by omega)]
    by_cases e : y = x
    · subst e
      by_cases e2 : r = t
      · subst e2; rw [if_pos rfl, if_pos ⟨rfl, rfl⟩]
      · rw [if_neg (by omega), if_neg fun e => e2 e.2]
    · rw [if_neg, if_neg fun e' => e e'.1]
      exact (h.live_apart hy (.inl hx) e hr).2 hob t ht
  have hheads : ∀ y, y ∈ s.pn ∨ y ∈ s.pk → (s.l.set (x + t) v).getD y 0 = s.l.getD y 0 := fun y hy => by
    have hyl : y < s.l.length := hy.elim (fun e => (h.pn_lt e).2.2) fun e => (h.pk_lt e).2
    rw [key _ hyl, if_neg]
    by_cases e : x = y
    · omega
    · exact fun e' => (h.live_apart (.inl hx) hy e ht).1 e'.symm
  refine h.rewrite (s.l.set (x + t) v) s.sc (by simp) ?_ (fun y hy => .inl (hheads y hy)) (fun y hy => ?_) (fun y hy i hi => ?_) (fun hm y hy hlt hwk i hi => ?_) h.scn
  · rw [key _ (by omega), if_neg (by omega)]; exact h.zero
  · have := (h.live_ob hy).nA_le
    rw [hword y 2 hy (by omega), if_neg (by omega)]
  · have := (h.live_ob hy).nA_le
    rw [hword y (3 + i) hy (by unfold nA; omega)]
    split
    · rename_i e
      rw [e.1] at hi
      exact hv (by omega) (by omega)
    · exact h.ptr y hy i hi
  · rw [hword y (3 + i) (.inl hy) (by unfold nA; omega)]
    split
    · rename_i e
      rw [e.1] at hi hwk hlt
      exact hb hm hlt hwk (by omega) (by omega)
    · exact h.blk hm y hy hlt hwk i hi

/-- All of it. -/
theorem Ok.again {s : Hp} (h : Ok s) {l' : List Int} {sc' : Nat} (g : Okw { s with l := l', sc := sc' }) (hl : l'.length = s.l.length) (hh : ∀ x, x ∈ s.pn ∨ x ∈ s.pk → HeadLike s.l l' x) : Ok { s with l := l', sc := sc' } := by
  refine ⟨g, fun x hx ho hwk => ?_⟩
  have e := hh x (.inr hx)
  rw [e.fields.2.2.1] at hwk
  obtain ⟨a, ha, ea⟩ := h.wkb x hx ((e.ob hl).1 ho) hwk
  exact ⟨a, ha, by show fwd l' a = x; rw [(hh a (h.wks a ha).1).fwd]; exact ea⟩
theorem Okw.put_heads {s : Hp} (h : Okw s) {x t : Nat} {v : Int} (hx : x ∈ s.pn) (ht : t < nA s.l x) (h1 : t = 1 ∨ 3 ≤ t) : ∀ y, y ∈ s.pn ∨ y ∈ s.pk → (s.put (x + t) v).l.getD y 0 = s.l.getD y 0 := fun y hy => by
  have hyl : y < s.l.length := hy.elim (fun e => (h.pn_lt e).2.2) fun e => (h.pk_lt e).2
  show (s.l.set (x + t) v).getD y 0 = _
  rw [set_at' hyl, if_neg]
  by_cases e : x = y
  · omega
  · exact fun e' => (h.live_apart (.inl hx) hy e ht).1 e'.symm
theorem Ok.put {s : Hp} (h : Ok s) {x t : Nat} {v : Int} (hx : x ∈ s.pn) (ht : t < nA s.l x) (h1 : t = 1 ∨ 3 ≤ t) (hv : 3 ≤ t → t < 3 + hp (hdW s.l x) → PtrOk s v) (hb : s.mv = true → x < s.sc → hw (hdW s.l x) = false → 3 ≤ t → t < 3 + hp (hdW s.l x) → v = 0 ∨ ∃ y ∈ s.pn, v = ((y : Nat) : Int)) :
    Ok (s.put (x + t) v) :=
  h.again (l' := s.l.set (x + t) v) (sc' := s.sc) (h.toOkw.put hx ht h1 hv hb) (by simp) fun y hy => .inl (h.put_heads hx ht h1 y hy)

end Go.Proofs.YtbjmeibcphmgbaaGreat

namespace Go.Proofs.YtbjmeibcphmgbaaGreat
open Go.ChangeShapes Go.WideShapes Go.ChangeAt Go.RowKit

set_option linter.unusedSimpArgs false
set_option linter.unusedVariables false

section
variable {w : World} {H P b : Nat} {v0 v1 v2 v3 : Value} {s : Hp} {K : Nat → Prop}
theorem Okw.fwd_zero (g : Okw s) : fwd s.l 0 = 0 := by unfold fwd hdW; rw [g.zero]; rfl
theorem Okw.inOk_le (g : Okw s) {p : Nat} (hp : InOk s p) : p < s.l.length ∧ p ≤ 65536 := by
  have := g.len; have := g.z1; have := g.z0
  rcases hp with rfl | e | e
  · omega
  · have := (g.pn_lt e).2.2; omega
  · have := (g.pk_lt e).2; omega
theorem Okw.fwd_in (g : Okw s) {p : Nat} (hp : InOk s p) : InOk s (fwd s.l p) ∧ (fwd s.l p = 0 ∨ Live s (fwd s.l p)) := by
  rcases hp with rfl | e | e
  · rw [g.fwd_zero]; exact ⟨.inl rfl, .inl rfl⟩
  · rw [((g.inn p e).2.1).fwd]; exact ⟨.inr (.inl e), .inr (.inl e)⟩
  · rcases g.alive e with e1 | ⟨_, _, n, hn, _, _, e5⟩
    · rw [e1.fwd]; exact ⟨.inr (.inr e), .inr (.inr ⟨e, e1⟩)⟩
    · rw [e5]; exact ⟨.inr (.inl hn), .inr (.inl hn)⟩

theorem nowH (h : HeapIn w H P b v0 v1 v2 v3 s) (g : Okw s) (p : Nat) (hp : InOk s p) :
    Calls Tryz.prog 94 #[.pointer (some ⟨H, 0, none⟩), .int .i64 p] w fun e w' => e = .returned (.int .i64 (fwd s.l p)) ∧ Below w.heap.size w w' := by
  have M : ∃ (n : Nat) (gb : Bool), (if gb then n else p) = fwd s.l p ∧ Calls Tryz.prog 83 #[.pointer (some ⟨P, 0, none⟩), .int .i64 p] w fun e w' => e = .returned (.tuple #[.int .i64 n, .bool gb]) ∧ Below w.heap.size w w' := by
    have hlen := g.inOk_le hp
    rcases hp with rfl | e | e
    · exact ⟨0, false, g.fwd_zero.symm, at_zero w h.ar hlen.1 g.zero⟩
    · exact ⟨0, false, ((g.inn p e).2.1).fwd.symm, at_obj p w h.ar (g.inn p e).2.1.of⟩
    · rcases g.alive e with e1 | ⟨_, _, n, hn, e3, _, e5⟩
      · exact ⟨0, false, e1.fwd.symm, at_obj p w h.ar e1.of⟩
      · have := g.pn_lt hn; have := g.len; have := g.z1
        exact ⟨n, true, e5.symm, at_gone p n w h.ar hlen.1 (by omega) (by omega) e3⟩
  obtain ⟨n, gb, hn, M⟩ := M
  have c0 : w.cell? ⟨H, 0, none⟩ = some (.pointer (some ⟨P, 0, none⟩)) := h.blk.cell 0
  clear h g hp
  rw [← hn]
  clear hn
  cases gb
  · go_enter Tryz.func94, Tryz.ntmps94
    go_wp2_with fail
    refine M.mono ?_
    rintro e x ⟨rfl, hb⟩
    go_wp2
    go_ret
    exact ⟨rfl, hb⟩
  · go_enter Tryz.func94, Tryz.ntmps94
    go_wp2_with fail
    refine M.mono ?_
    rintro e x ⟨rfl, hb⟩
    go_wp2
    go_ret
    exact ⟨rfl, hb⟩

def keptL (s : Hp) (l : List Nat) : List Nat := (l.map (fwd s.l)).filter fun a => decide (a ∈ s.pn)
def leftL (s : Hp) (l : List Nat) : List Nat := (l.map (fwd s.l)).filter fun a => !decide (a ∈ s.pn)
theorem take_next' {ps : List Nat} {k : Nat} (h : k < ps.length) : ps.take (k + 1) = ps.take k ++ [ps.getD k 0] := by
  rw [List.take_succ_eq_append_getElem h]
  simp [List.getD, h]
theorem keptL_next (s : Hp) {l : List Nat} {k : Nat} (h : k < l.length) : keptL s (l.take (k + 1)) = if fwd s.l (l.getD k 0) ∈ s.pn then keptL s (l.take k) ++ [fwd s.l (l.getD k 0)] else keptL s (l.take k) := by
  unfold keptL
  rw [take_next' h, List.map_append, List.filter_append, List.map_cons, List.map_nil]
  generalize fwd s.l (l.getD k 0) = q
  by_cases h2 : q ∈ s.pn <;> simp [h2]
theorem leftL_next (s : Hp) {l : List Nat} {k : Nat} (h : k < l.length) : leftL s (l.take (k + 1)) = if fwd s.l (l.getD k 0) ∈ s.pn then leftL s (l.take k) else leftL s (l.take k) ++ [fwd s.l (l.getD k 0)] := by
  unfold leftL
  rw [take_next' h, List.map_append, List.filter_append, List.map_cons, List.map_nil]
  generalize fwd s.l (l.getD k 0) = q
  by_cases h2 : q ∈ s.pn <;> simp [h2]
theorem keptL_len (s : Hp) (l : List Nat) : (keptL s l).length ≤ l.length := by unfold keptL; exact Nat.le_trans (List.length_filter_le _ _) (by simp)
theorem leftL_len (s : Hp) (l : List Nat) : (leftL s l).length ≤ l.length := by unfold leftL; exact Nat.le_trans (List.length_filter_le _ _) (by simp)

/-- Two rows of the call's own: both new since w, and apart. -/
structure TwoRows (B : Nat) (x : World) (v u : Value) (k l : List Nat) : Prop where
  r : RowIs x v k
  q : RowIs x u l
  vb : ∀ g, v.ownBlock = some g → B ≤ g
  ub : ∀ g, u.ownBlock = some g → B ≤ g
  far : ∀ g, v.ownBlock = some g → u.ownBlock ≠ some g
theorem TwoRows.on {B : Nat} {x y : World} {v u : Value} {k l : List Nat} (h : TwoRows B x v u k l) (hb : Below x.heap.size x y) : TwoRows B y v u k l :=
  ⟨h.r.chg (S := fun _ => False) (Chg.of_below hb (Nat.le_refl _)) fun _ _ h => h, h.q.chg (S := fun _ => False) (Chg.of_below hb (Nat.le_refl _)) fun _ _ h => h, h.vb, h.ub, h.far⟩
theorem TwoRows.swap {B : Nat} {x : World} {v u : Value} {k l : List Nat} (h : TwoRows B x v u k l) : TwoRows B x u v l k :=
  ⟨h.q, h.r, h.ub, h.vb, fun g e e' => h.far g e' e⟩
theorem TwoRows.push {B : Nat} {x y : World} {v u v' : Value} {k k' l : List Nat} (h : TwoRows B x v u k l) (hB : B ≤ x.heap.size) (hr : RowIs y v' k') (hg : x.grownBy y v.ownBlock) (hat : v'.ownBlock = v.ownBlock ∨ v'.ownBlock = some x.heap.size) : TwoRows B y v' u k' l := by
  refine ⟨hr, h.q.chg (Chg.of_grown (S := fun k => some k = v.ownBlock) hg fun _ e => e) fun g e e' => h.far g e'.symm e, fun g e => ?_, h.ub, fun g e e' => ?_⟩
  · rcases hat with h' | h'
    · rw [h'] at e; exact h.vb g e
    · rw [h'] at e; injection e with e; omega
  · rcases hat with h' | h'
    · rw [h'] at e; exact h.far g e e'
    · rw [h'] at e; injection e with e
      have := h.q.lt e'
      omega
theorem TwoRows.below {B : Nat} {x y w : World} {v u : Value} {k l : List Nat} (h : TwoRows B x v u k l) (hb : Below B w x) (hg : x.grownBy y v.ownBlock) (hB : B ≤ x.heap.size) : Below B w y :=
  hb.trans ((Chg.of_grown (S := fun k => some k = v.ownBlock) hg fun _ e => e).below (fun k e => h.vb k e.symm) hB)

set_option maxRecDepth 100000 in
set_option maxHeartbeats 4000000 in
theorem splitH (h : HeapIn w H P b v0 v1 v2 v3 s) (g : Okw s) (v : Value) (l : List Nat) (hv : ReadsAs .i64 w v (nums l)) (hl : l.length ≤ 1100000000000) (hp : ∀ a ∈ l, InOk s a) :
    Calls Tryz.prog 58 #[.pointer (some ⟨H, 0, none⟩), v] w fun e w' => ∃ kv lv, e = .returned (.tuple #[kv, lv]) ∧ TwoRows w.heap.size w' kv lv (keptL s l) (leftL s l) ∧ Below w.heap.size w w' := by
  obtain ⟨va, vc, rfl, hr⟩ := hv.slice
  have HR := Lib.hid hr
  have HP := Lib.hid hp
  clear hr hv hp
  obtain ⟨n, hn⟩ : ∃ n, l.length = n := ⟨_, rfl⟩
  have Hn := Lib.hid hn
  rw [nums_length, hn]
  rw [hn] at hl
  clear hn
  go_enter Tryz.func58, Tryz.ntmps58
  go_wp2
  go_loopw [10, 4, 5] (fun i kv lv wr => ∃ k : Nat, k ≤ n ∧ i = .int .i64 k ∧ TwoRows w.heap.size wr kv lv (keptL s (l.take k)) (leftL s (l.take k)) ∧ Below w.heap.size w wr) (fun i _ _ _ => n - (intOf i).toNat)
  case atStart => exact ⟨0, by omega, rfl, ⟨World.ownsRow_nil _ _ _ _, World.ownsRow_nil _ _ _ _, fun g e => by simp [Value.ownBlock] at e, fun g e => by simp [Value.ownBlock] at e, fun g e => by simp [Value.ownBlock] at e⟩, Below.refl _ _⟩
  case round =>
    obtain ⟨k, hk, rfl, hT, hB⟩ := hrel
    by_cases hlt : k < n
    · obtain ⟨gr, e, hg, hc, hcell⟩ := HR.out (by rw [nums_length, Hn.out]; omega)
      subst e
      have c0 := (hB.cell (p := ⟨gr, k, none⟩) hg).trans (hcell k (by rw [nums_length, Hn.out]; omega))
      rw [nums_getD (by rw [Hn.out]; omega)] at c0
      have hK := keptL_next s (l := l) (k := k) (by rw [Hn.out]; omega)
      have hL := leftL_next s (l := l) (k := k) (by rw [Hn.out]; omega)
      have lk := keptL_len s (l.take k)
      have ll := leftL_len s (l.take k)
      rw [List.length_take, Hn.out] at lk ll
      have hin := HP.out (l.getD k 0) (by
        rw [List.getD_eq_getElem?_getD, List.getElem?_eq_getElem (by rw [Hn.out]; omega)]
        exact List.getElem_mem _)
      have M1 := nowH (h.on hB) g (l.getD k 0) hin
      clear hcell HR hin
      generalize l.getD k 0 = p at *
      generalize keptL s (l.take k) = kl at *
      generalize leftL s (l.take k) = ll' at *
      obtain ⟨q, hq⟩ : ∃ q, fwd s.l p = q := ⟨_, rfl⟩
      rw [hq] at M1 hK hL
      clear hq
      have HK := Lib.hid hK
      have HL := Lib.hid hL
      clear hK hL
      have b0 : (0 : Int) ≤ (k : Int) := by omega
      have b1 : (k : Int) < (n : Int) := by omega
      have hwr := hB.size
      go_wp2_with fail
      refine M1.mono ?_
      rintro e y ⟨rfl, hb⟩
      have hT2 := hT.on hb
      have hB2 := hB.trans (hb.mono hB.size)
      have M2 := here_any (h.on hB2) g.sound (q : Int)
      clear M1 c0 hT hB hb
      go_wp2_with fail
      refine M2.mono ?_
      rintro e z ⟨rfl, hb⟩
      replace hT2 := hT2.on hb
      replace hB2 := hB2.trans (hb.mono hB2.size)
      clear M2 hb
      have hzw := hB2.size
      have hba := (Below.refl _ z).alloc (Nat.le_refl _) (.cells #[.int .i64 q] 3)
      have hTa := hT2.on hba
      have hBa := hB2.trans (hba.mono hzw)
      have hcl := (BlkIs.new z #[.int .i64 q] 3).cell 0
      have hzs : w.heap.size ≤ (z.alloc (.cells #[.int .i64 q] 3)).heap.size := hBa.size
      by_cases hq : q ∈ s.pn
      · have d0 : decide ((q : Int) ∈ nums s.pn) = true := decide_eq_true (mem_nums.2 hq)
        have eK := HK.out
        have eL := HL.out
        rw [if_pos hq] at eK eL
        have EK := Lib.hid eK
        have EL := Lib.hid eL
        clear eK eL
        go_wp2_with (at_builtin; refine wpList_push rfl _ _ rfl u4 kl rfl hTa.r (by omega) z.heap.size q rfl hcl ?_; intro v' w' r3 hgr hat hsl; have hT3 := hTa.push hzs r3 hgr hat; have hB3 := hTa.below hBa hgr hzs)
        go_roundw
        case rel => exact ⟨k + 1, by omega, by go_num, by rw [EK.out, EL.out]; exact hT3, hB3⟩
        case measure => simp [intOf]; omega
      · have d0 : decide ((q : Int) ∈ nums s.pn) = false := decide_eq_false fun e => hq (mem_nums.1 e)
        have eK := HK.out
        have eL := HL.out
        rw [if_neg hq] at eK eL
        have EK := Lib.hid eK
        have EL := Lib.hid eL
        clear eK eL
        go_wp2_with (at_builtin; refine wpList_push rfl _ _ rfl u5 ll' rfl hTa.q (by omega) z.heap.size q rfl hcl ?_; intro v' w' r3 hgr hat hsl; have hT3 := (hTa.swap.push hzs r3 hgr hat).swap; have hB3 := hTa.swap.below hBa hgr hzs)
        go_roundw
        case rel => exact ⟨k + 1, by omega, by go_num, by rw [EK.out, EL.out]; exact hT3, hB3⟩
        case measure => simp [intOf]; omega
    · obtain rfl : k = n := by omega
      rw [List.take_of_length_le (by rw [Hn.out]; omega)] at hT
      go_wp2
      go_ret2
      exact ⟨_, _, rfl, hT, hB⟩
end

end Go.Proofs.YtbjmeibcphmgbaaGreat

namespace Go.Proofs.YtbjmeibcphmgbaaGreat
open Go.ChangeShapes Go.WideShapes Go.ChangeAt Go.RowKit

set_option linter.unusedSimpArgs false
set_option linter.unusedVariables false

/-- What a weak pointer leads to now, if that is here. -/
def Hp.lzQ (s : Hp) (a : Nat) : Nat := fwd s.l (s.l.getD (a + 3) 0).toNat
def Hp.lzV (s : Hp) (a : Nat) : Nat := if s.lzQ a = 0 ∨ s.lzQ a ∈ s.pn then s.lzQ a else 0
def Hp.loose1 (s : Hp) (a : Nat) : Hp := s.put (a + 3) (s.lzV a : Nat)
def Hp.looseL (s : Hp) (ws : List Nat) : Hp := ws.foldl Hp.loose1 s
def Hp.lost1 (s : Hp) (a : Nat) : List Nat := if s.lzQ a = 0 ∨ s.lzQ a ∈ s.pn then [] else [(s.l.getD (a + 2) 0).toNat]
def Hp.lostL (s : Hp) : List Nat → List Nat
  | [] => []
  | a :: ws => s.lost1 a ++ (s.loose1 a).lostL ws
theorem looseL_snoc (s : Hp) (a : Nat) (ws : List Nat) : s.looseL (ws ++ [a]) = (s.looseL ws).loose1 a := by unfold Hp.looseL; rw [List.foldl_append]; rfl
theorem lostL_snoc (s : Hp) (a : Nat) (ws : List Nat) : s.lostL (ws ++ [a]) = s.lostL ws ++ (s.looseL ws).lost1 a := by
  induction ws generalizing s with
  | nil => show s.lost1 a ++ [] = [] ++ s.lost1 a; simp
  | cons b ws ih =>
    show s.lost1 b ++ (s.loose1 b).lostL (ws ++ [a]) = (s.lost1 b ++ (s.loose1 b).lostL ws) ++ ((s.loose1 b).looseL ws).lost1 a
    rw [ih, List.append_assoc]
theorem looseL_eq (s : Hp) (ws : List Nat) : s.looseL ws = { s with l := (s.looseL ws).l } := by
  induction ws generalizing s with
  | nil => rfl
  | cons a ws ih =>
    have := ih (s.loose1 a)
    show (s.loose1 a).looseL ws = _
    rw [this]
    rfl
theorem lostL_len (s : Hp) (ws : List Nat) : (s.lostL ws).length ≤ ws.length := by
  induction ws generalizing s with
  | nil => exact Nat.le_refl _
  | cons a ws ih =>
    have := ih (s.loose1 a)
    show (s.lost1 a ++ (s.loose1 a).lostL ws).length ≤ ws.length + 1
    rw [List.length_append]
    have : (s.lost1 a).length ≤ 1 := by unfold Hp.lost1; split <;> simp
    omega
/-- A weak object that is here. -/
def WkAt (s : Hp) (a : Nat) : Prop := a ∈ s.pn ∧ hw (hdW s.l a) = true
theorem Okw.wk_one {s : Hp} (g : Okw s) {a : Nat} (ha : WkAt s a) : hp (hdW s.l a) = 1 ∧ 4 ≤ nA s.l a ∧ InOk s (s.l.getD (a + 3) 0).toNat ∧ s.l.getD (a + 3) 0 = ((s.l.getD (a + 3) 0).toNat : Int) := by
  have o := (g.inn a ha.1).2.1.of
  have hr := o.right
  rw [ha.2] at hr
  have h1 : hp (hdW s.l a) = 1 := by
    unfold shB at hr
    simp at hr
    omega
  refine ⟨h1, by unfold nA; omega, ?_⟩
  rcases g.ptr a (.inl ha.1) 0 (by omega) with e | ⟨y, e, hy⟩
  · have e' : s.l.getD (a + 3) 0 = 0 := e
    rw [e']; exact ⟨.inl rfl, rfl⟩
  · have e' : s.l.getD (a + 3) 0 = (y : Int) := e
    rw [e', Int.toNat_natCast]; exact ⟨.inr hy, rfl⟩
theorem lzV_in (s : Hp) (a : Nat) : s.lzV a = 0 ∨ s.lzV a ∈ s.pn := by
  unfold Hp.lzV
  split
  · rename_i h; exact h
  · exact .inl rfl
theorem Okw.loose1 {s : Hp} (g : Okw s) {a : Nat} (ha : WkAt s a) : Okw (s.loose1 a) := by
  have h1 := g.wk_one ha
  refine g.put (t := 3) ha.1 (by omega) (.inr (Nat.le_refl _)) (fun _ _ => ?_) (fun _ _ hwk => absurd (ha.2.symm.trans hwk) (by decide))
  rcases lzV_in s a with e | e
  · rw [e]; exact .inl rfl
  · exact .inr ⟨_, rfl, .inl e⟩
theorem Okw.loose1_head {s : Hp} (g : Okw s) {a x : Nat} (ha : WkAt s a) (hx : x ∈ s.pn ∨ x ∈ s.pk) : (s.loose1 a).l.getD x 0 = s.l.getD x 0 := by
  have h1 := g.wk_one ha
  have hxl : x < s.l.length := hx.elim (fun e => (g.pn_lt e).2.2) fun e => (g.pk_lt e).2
  show (s.l.set (a + 3) _).getD x 0 = _
  rw [set_at' hxl, if_neg]
  by_cases e : a = x
  · omega
  · exact fun e' => (g.live_apart (t := 3) (.inl ha.1) hx e (by omega)).1 e'.symm
theorem Okw.looseL {s : Hp} (g : Okw s) (ws : List Nat) (ha : ∀ a ∈ ws, WkAt s a) : Okw (s.looseL ws) ∧ ∀ x, x ∈ s.pn ∨ x ∈ s.pk → (s.looseL ws).l.getD x 0 = s.l.getD x 0 := by
  induction ws generalizing s with
  | nil => exact ⟨g, fun _ _ => rfl⟩
  | cons a ws ih =>
    have h0 := ha a List.mem_cons_self
    have g1 := g.loose1 h0
    have hh := fun x hx => g.loose1_head (x := x) h0 hx
    obtain ⟨a1, a2⟩ := ih g1 fun b hb => by
      obtain ⟨b1, b2⟩ := ha b (List.mem_cons_of_mem _ hb)
      exact ⟨b1, by rw [hdW_congr (hh b (.inl b1))]; exact b2⟩
    exact ⟨a1, fun x hx => (a2 x hx).trans (hh x hx)⟩

section
variable {w : World} {H P b : Nat} {v0 v1 v2 v3 : Value} {s : Hp} {K : Nat → Prop}
set_option maxRecDepth 100000 in
set_option maxHeartbeats 4000000 in
theorem loosenH (h : HeapIn w H P b v0 v1 v2 v3 s) (g : Okw s) (hwk : ∀ a ∈ s.wk, WkAt s a) :
    Calls Tryz.prog 59 #[.pointer (some ⟨H, 0, none⟩)] w fun e w' => ∃ lv, e = .returned lv ∧ RowIs w' lv (s.lostL s.wk) ∧ (∀ g, lv.ownBlock = some g → w.heap.size ≤ g) ∧ HeapIn w' H P b v0 v1 v2 v3 (s.looseL s.wk) ∧ Chg (· = b) w w' := by
  have c14 : w.cell? ⟨H, 14, none⟩ = some v2 := h.blk.cell 14
  have hwl : s.wk.length ≤ 1100000000000 := by have := g.wkl; have := g.sel; omega
  obtain ⟨va, vc, e2, hr⟩ := h.r2.reads.slice
  have hb2 := h.r2.ne h.ar.row (by decide)
  have hfl : ∀ k, Foot H P b v0 v1 v2 v3 k → k < w.heap.size := fun k hk => h.lt hk
  subst e2
  obtain ⟨ws, has⟩ : ∃ ws, s.wk = ws := ⟨_, rfl⟩
  rw [has] at hr hwl c14 h hb2 hfl ⊢
  rw [nums_length] at hr c14 h hb2 hfl ⊢
  obtain ⟨n, hn⟩ : ∃ n, ws.length = n := ⟨_, rfl⟩
  have Hn := Lib.hid hn
  rw [hn] at hwl hr c14 h hb2 hfl ⊢
  rw [has] at hwk
  have HW := Lib.hid hwk
  have HR := Lib.hid hr
  clear hwk hr hn has
  go_enter Tryz.func59, Tryz.ntmps59
  go_wp2
  go_loopw [15, 3] (fun i lv wr => ∃ k : Nat, k ≤ n ∧ i = .int .i64 k ∧ RowIs wr lv (s.lostL (ws.take k)) ∧ Hid (∀ g, lv.ownBlock = some g → w.heap.size ≤ g) ∧ HeapIn wr H P b v0 v1 (.slice va n vc) v3 (s.looseL (ws.take k)) ∧ Chg (· = b) w wr) (fun i _ _ => n - (intOf i).toNat)
  case atStart => exact ⟨0, by omega, rfl, World.ownsRow_nil _ _ _ _, Lib.hid fun g e => by simp [Value.ownBlock] at e, h, Chg.refl _ _⟩
  case round =>
    obtain ⟨k, hk, rfl, hrow, hlow, hi, hc⟩ := hrel
    by_cases hlt : k < n
    · obtain ⟨gr, e, hg, hcp, hcell⟩ := HR.out (by omega)
      subst e
      have c0 := (hc.cell (p := ⟨gr, k, none⟩) hg (fun e => hb2 (by rw [← e]; rfl))).trans (hcell k hlt)
      rw [nums_getD (by rw [Hn.out]; omega)] at c0
      obtain ⟨gk, hhk⟩ := g.looseL (ws.take k) fun a ha => HW.out a (List.mem_of_mem_take ha)
      have ha0 := HW.out (ws.getD k 0) (by
        rw [List.getD_eq_getElem?_getD, List.getElem?_eq_getElem (by rw [Hn.out]; omega)]
        exact List.getElem_mem _)
      have hpn : (s.looseL (ws.take k)).pn = s.pn := by rw [looseL_eq]
      have hak : WkAt (s.looseL (ws.take k)) (ws.getD k 0) := ⟨by rw [hpn]; exact ha0.1, by rw [hdW_congr (hhk _ (.inl ha0.1))]; exact ha0.2⟩
      have e1 := take_next' (ps := ws) (k := k) (by rw [Hn.out]; omega)
      have eL := looseL_snoc s (ws.getD k 0) (ws.take k)
      have eS := lostL_snoc s (ws.getD k 0) (ws.take k)
      rw [← e1] at eL eS
      have ll := lostL_len s (ws.take k)
      rw [List.length_take, Hn.out] at ll
      clear hcell HR ha0 hhk e1
      obtain ⟨a, ha⟩ : ∃ a, ws.getD k 0 = a := ⟨_, rfl⟩
      rw [ha] at c0 hak eL eS
      clear ha
      have EL := Lib.hid eL
      have ES := Lib.hid eS
      clear eL eS
      generalize s.looseL (ws.take k) = sk at *
      generalize s.lostL (ws.take k) = lk at *
      obtain ⟨w1, w2, w3, w4⟩ := gk.wk_one hak
      have ob := (gk.inn a hak.1).2.1
      have o := ob.of
      have hal := gk.pn_lt hak.1
      have hlen := gk.len
      have hz1 := gk.z1
      have hbd := gk.inOk_le w3
      have M1 : ∀ x, ArenaAt 146 x P b sk.l → Calls Tryz.prog 71 #[.pointer (some ⟨P, 0, none⟩), .int .i64 a, .int .i64 0] x fun e x' => e = .returned (.tuple #[.int .i64 ((sk.l.getD (a + 3) 0).toNat : Int), .int .i64 0]) ∧ Below x.heap.size x x' := fun x hx => by
        have := ptr_at a 0 x hx o (by omega) (by show 0 ≤ sk.l.getD (a + 3) 0 ∧ sk.l.getD (a + 3) 0 ≤ _; rw [w4]; omega)
        rw [← w4]
        exact this
      have M2 := fun x (hx : HeapIn x H P b v0 v1 (.slice (some ⟨gr, 0, none⟩) n vc) v3 sk) => nowH hx gk _ w3
      obtain ⟨bb, hbb⟩ : ∃ bb, decide (((sk.lzQ a : Nat) : Int) = 0 ∨ ((sk.lzQ a : Nat) : Int) ∈ nums sk.pn) = bb := ⟨_, rfl⟩
      have M3 : ∀ x, HeapIn x H P b v0 v1 (.slice (some ⟨gr, 0, none⟩) n vc) v3 sk → Calls Tryz.prog 61 #[.pointer (some ⟨H, 0, none⟩), .int .i64 (sk.lzQ a : Nat)] x fun e w' => e = .returned (.bool bb) ∧ Below x.heap.size x w' := fun x hx => by
        rw [← hbb]
        exact may_any hx gk.sound (sk.lzQ a : Nat)
      have HBB := Lib.hid hbb
      clear hbb
      have hser := gk.ser a (.inl hak.1)
      have hsel := gk.sel
      have M4 : ∀ x, ArenaAt 146 x P b sk.l → Calls Tryz.prog 70 #[.pointer (some ⟨P, 0, none⟩), .int .i64 a] x fun e x' => e = .returned (.tuple #[.int .i64 ((sk.l.getD (a + 2) 0).toNat : Int), .int .i64 0]) ∧ Below x.heap.size x x' := fun x hx => by
        have := serial_at a x hx o (by omega)
        rw [show ((sk.l.getD (a + 2) 0).toNat : Int) = sk.l.getD (a + 2) 0 from by omega]
        exact this
      have hlv : sk.lzV a ≤ 131072 := gk.pn_le (lzV_in sk a)
      have M5 : ∀ x, ArenaAt 146 x P b sk.l → Calls Tryz.prog 72 #[.pointer (some ⟨P, 0, none⟩), .int .i64 a, .int .i64 0, .int .i64 (sk.lzV a : Nat)] x fun e x' => e = .returned (.int .i64 0) ∧ ArenaAt 146 x' P b (sk.loose1 a).l ∧ Chg (· = b) x x' := fun x hx => setPtr_at a 0 _ x hx o (by omega) hlv
      have eV : sk.lzV a = if sk.lzQ a = 0 ∨ sk.lzQ a ∈ sk.pn then sk.lzQ a else 0 := rfl
      have eT : sk.lost1 a = if sk.lzQ a = 0 ∨ sk.lzQ a ∈ sk.pn then [] else [(sk.l.getD (a + 2) 0).toNat] := rfl
      have eQ : fwd sk.l (sk.l.getD (a + 3) 0).toNat = sk.lzQ a := rfl
      rw [eQ] at M2
      clear w1 w2 w3 w4 ob o hal hlen hz1 hbd hser hsel hak eQ
      generalize sk.lzQ a = q at *
      generalize sk.lzV a = vv at *
      generalize (sk.l.getD (a + 3) 0).toNat = pp at *
      generalize (sk.l.getD (a + 2) 0).toNat = ser at *
      have b0 : (0 : Int) ≤ (k : Int) := by omega
      have b1 : (k : Int) < (n : Int) := by omega
      have d0 : wr.cell? ⟨H, 0, none⟩ = some (.pointer (some ⟨P, 0, none⟩)) := hi.blk.cell 0
      have hcw := hc.size
      go_wp2_with fail
      refine (M1 _ hi.ar).mono ?_
      rintro e y1 ⟨rfl, hb1⟩
      replace hi := hi.on hb1
      replace hrow := hrow.chg (S := fun _ => False) (Chg.of_below hb1 (Nat.le_refl _)) fun _ _ h => h
      replace hc := hc.trans (Chg.of_below hb1 (Nat.le_refl _))
      clear hb1 M1 d0 c0 hcw
      go_wp2_with fail
      refine (M2 _ hi).mono ?_
      rintro e y2 ⟨rfl, hb1⟩
      replace hi := hi.on hb1
      replace hrow := hrow.chg (S := fun _ => False) (Chg.of_below hb1 (Nat.le_refl _)) fun _ _ h => h
      replace hc := hc.trans (Chg.of_below hb1 (Nat.le_refl _))
      clear hb1 M2
      have M3' := M3 _ hi
      clear M3
      go_wp2_with fail
      refine M3'.mono ?_
      rintro e y3 ⟨rfl, hb1⟩
      replace hi := hi.on hb1
      replace hrow := hrow.chg (S := fun _ => False) (Chg.of_below hb1 (Nat.le_refl _)) fun _ _ h => h
      replace hc := hc.trans (Chg.of_below hb1 (Nat.le_refl _))
      clear hb1 M3'
      have d0 : y3.cell? ⟨H, 0, none⟩ = some (.pointer (some ⟨P, 0, none⟩)) := hi.blk.cell 0
      have hcw := hc.size
      by_cases hq : q = 0 ∨ q ∈ sk.pn
      · obtain rfl : bb = true := by rw [← HBB.out]; exact decide_eq_true (hq.imp (fun e => by omega) mem_nums.2)
        rw [if_pos hq] at eV eT
        have EV := Lib.hid eV
        have ET := Lib.hid eT
        have M5' := M5 _ hi.ar
        rw [eV] at M5'
        clear eV eT M5
        go_wp2_with fail
        refine M5'.mono ?_
        rintro e y4 ⟨rfl, hA, hc4⟩
        have hi4 := hi.put hA hc4
        have hr4 := hrow.chg hc4 fun g e e' => by subst e'; exact hrow.ne hi.ar.row (by decide) e
        have hc5 := hc.trans hc4
        clear hA hc4 M5' M4
        go_wp2
        go_roundw
        case rel => exact ⟨k + 1, by omega, by go_num, by rw [ES.out, ET.out, List.append_nil]; exact hr4, hlow, by rw [EL.out]; exact hi4, hc5⟩
        case measure => simp [intOf]; omega
      · obtain rfl : bb = false := by rw [← HBB.out]; exact decide_eq_false fun e => hq (e.imp (fun e => by omega) mem_nums.1)
        rw [if_neg hq] at eV eT
        have ET := Lib.hid eT
        have M5' : ∀ x, ArenaAt 146 x P b sk.l → Calls Tryz.prog 72 #[.pointer (some ⟨P, 0, none⟩), .int .i64 a, .int .i64 0, .int .i64 0] x fun e x' => e = .returned (.int .i64 0) ∧ ArenaAt 146 x' P b (sk.loose1 a).l ∧ Chg (· = b) x x' := fun x hx => by
          have := M5 x hx
          rw [eV] at this
          exact this
        clear eV eT M5
        go_wp2_with fail
        refine (M4 _ hi.ar).mono ?_
        rintro e y4 ⟨rfl, hb1⟩
        replace hi := hi.on hb1
        replace hrow := hrow.chg (S := fun _ => False) (Chg.of_below hb1 (Nat.le_refl _)) fun _ _ h => h
        replace hc := hc.trans (Chg.of_below hb1 (Nat.le_refl _))
        clear hb1 M4 d0 hcw
        have hcw := hc.size
        have hba := (Below.refl _ y4).alloc (Nat.le_refl _) (.cells #[.int .i64 ser] 3)
        have hia := hi.on hba
        have hra := hrow.chg (S := fun _ => False) (Chg.of_below hba (Nat.le_refl _)) fun _ _ h => h
        have hca := hc.trans (Chg.of_below hba (Nat.le_refl _))
        have hcl := (BlkIs.new y4 #[.int .i64 ser] 3).cell 0
        have hza : w.heap.size ≤ (y4.alloc (.cells #[.int .i64 ser] 3)).heap.size := hca.size
        have hnf : ∀ k, u3.ownBlock = some k → ¬ Foot H P b v0 v1 (.slice (some ⟨gr, 0, none⟩) n vc) v3 k := fun k e hf => by
          have := hlow.out k e
          have := hfl k hf
          omega
        go_wp2_with (first
          | (at_builtin; refine wpList_push rfl _ _ rfl u3 lk rfl hra (by omega) y4.heap.size ser rfl hcl ?_; intro v' w' r3 hgr hat hsl
             have hgc := Chg.of_grown (S := fun k => some k = u3.ownBlock) hgr fun _ e => e
             have hi5 := hia.chg hgc fun k hk e => hnf k e.symm hk
             have d5 : w'.cell? ⟨H, 0, none⟩ = some (.pointer (some ⟨P, 0, none⟩)) := hi5.blk.cell 0
             have hc5 := hca.step hgc fun k e => .inr (hlow.out k e.symm)
             have hl5 : Hid (∀ g, v'.ownBlock = some g → w.heap.size ≤ g) := Lib.hid fun g e => hat.elim (fun h => hlow.out g (by rw [← h]; exact e)) fun h => by
               rw [h] at e; injection e with e; omega)
          | (refine (M5' _ hi5.ar).mono ?_
             rintro e y6 ⟨rfl, hA, hc6⟩
             have hi6 := hi5.put hA hc6
             have hr6 := r3.chg hc6 fun g e e' => by subst e'; exact r3.ne hi5.ar.row (by decide) e
             have hc7 := hc5.trans hc6))
        go_roundw
        case rel => exact ⟨k + 1, by omega, by go_num, by rw [ES.out, ET.out]; exact hr6, hl5, by rw [EL.out]; exact hi6, hc7⟩
        case measure => simp [intOf]; omega
    · obtain rfl : k = n := by omega
      rw [List.take_of_length_le (by rw [Hn.out]; omega)] at hrow hi
      go_wp2
      go_ret
      exact ⟨_, rfl, hrow, hlow.out, hi, hc⟩
end

end Go.Proofs.YtbjmeibcphmgbaaGreat

namespace Go.Proofs.YtbjmeibcphmgbaaGreat
open Go.ChangeShapes Go.WideShapes Go.ChangeAt Go.RowKit

set_option linter.unusedSimpArgs false
set_option linter.unusedVariables false

theorem Okw.lists {s : Hp} (h : Okw s) (wk' fi' : List Nat) (h1 : ∀ a ∈ wk', (a ∈ s.pn ∨ a ∈ s.pk) ∧ hw (hdW s.l (fwd s.l a)) = true) (h2 : ∀ x ∈ s.pn, hw (hdW s.l x) = true → ∃ a ∈ wk', fwd s.l a = x) (h3 : ∀ a ∈ fi', a ∈ s.pn ∨ a ∈ s.pk) (h4 : wk'.length ≤ s.wk.length) (h5 : fi'.length ≤ s.fi.length) : Okw { s with wk := wk', fi := fi' } :=
  ⟨h.u01, h.z0, h.z1, h.len, h.zero, h.k0, h.k1, h.room, h.sum, h.owe, h.inn, h.ink, h.srn, h.srk, h.fst, h.nxt, h.stop, h.sel, h.ser, h.ptr, h.blk, h.scn, h1, h2, h3, Nat.le_trans h4 h.wkl, Nat.le_trans h5 h.fil⟩
theorem mem_keptL {s : Hp} {l : List Nat} {a : Nat} : a ∈ keptL s l ↔ (∃ b ∈ l, fwd s.l b = a) ∧ a ∈ s.pn := by
  unfold keptL
  rw [List.mem_filter, List.mem_map, decide_eq_true_iff]
/-- Behind both splits. -/
def Hp.kept (s : Hp) : Hp := { s with wk := keptL s s.wk, fi := keptL s s.fi }
theorem Okw.keptW {s : Hp} (h : Okw s) : Okw { s with wk := keptL s s.wk } := by
  refine h.lists (keptL s s.wk) s.fi (fun a ha => ?_) (fun x hx hwk => ?_) h.fin (keptL_len s s.wk) (Nat.le_refl _)
  · obtain ⟨⟨b, hb, e⟩, hp⟩ := mem_keptL.1 ha
    refine ⟨.inl hp, ?_⟩
    rw [((h.inn a hp).2.1).fwd, ← e]
    exact (h.wks b hb).2
  · obtain ⟨b, hb, e⟩ := h.wka x hx hwk
    exact ⟨x, mem_keptL.2 ⟨⟨b, hb, e⟩, hx⟩, ((h.inn x hx).2.1).fwd⟩
theorem Okw.kept {s : Hp} (h : Okw s) : Okw s.kept := by
  refine h.keptW.lists (keptL s s.wk) (keptL s s.fi) h.keptW.wks h.keptW.wka (fun a ha => .inl (mem_keptL.1 ha).2) (Nat.le_refl _) (keptL_len s s.fi)
theorem Okw.kept_wk {s : Hp} (h : Okw s) : ∀ a ∈ s.kept.wk, WkAt s.kept a := fun a ha => by
  obtain ⟨⟨b, hb, e⟩, hp⟩ := mem_keptL.1 (show a ∈ keptL s s.wk from ha)
  exact ⟨hp, by show hw (hdW s.l a) = true; rw [← e]; exact (h.wks b hb).2⟩
theorem Okw.inOk_wk {s : Hp} (h : Okw s) : ∀ a ∈ s.wk, InOk s a := fun a ha => .inr (h.wks a ha).1
theorem Okw.inOk_fi {s : Hp} (h : Okw s) : ∀ a ∈ s.fi, InOk s a := fun a ha => .inr (h.fin a ha)
def Hp.drop (s : Hp) : Hp := { s.kept.looseL s.kept.wk with mv := false, pk := [], tk := s.bk, ow := 0 }

section
variable {w x : World} {H P b : Nat} {v0 v1 v2 v3 : Value} {s : Hp} {K : Nat → Prop}
/-- One row has become another one, which is its own or new. -/
theorem HeapIn.newRow {u0 u1 u2 u3 : Value} {s' : Hp} (h : HeapIn w H P b v0 v1 v2 v3 s) (i : Nat) (hi : i < 4) (hl : s'.l = s.l) (hu : ∀ j, j < 4 → j ≠ i → vsel u0 u1 u2 u3 j = vsel v0 v1 v2 v3 j) (hrow : ∀ j, j < 4 → j ≠ i → s'.rows j = s.rows j)
    (hb : BlkIs x H (hpC P (s'.base 0) s'.z (s'.top 0) (s'.base 1) (s'.top 1) u0 u1 s'.u s'.mv s'.ow s'.sc s'.se u2 u3) 80) (hc : Chg (· = H) w x)
    (hr : RowIs x (vsel u0 u1 u2 u3 i) (s'.rows i)) (hat : ∀ g, (vsel u0 u1 u2 u3 i).ownBlock = some g → w.heap.size ≤ g) : HeapIn x H P b u0 u1 u2 u3 s' := by
  refine heapIn_of hb ?_ (fun j hj => ?_) fun j hj k hk hjk g e e' => ?_
  · rw [hl]
    exact h.ar.chg hc (fun e => ne_of_types h.ar.head h.blk (by decide) e) (fun e => ne_of_types h.ar.row h.blk (by decide) e)
  · by_cases e : j = i
    · subst e; exact hr
    · rw [hu j hj e, hrow j hj e]
      exact (h.row j hj).chg hc fun g eg e' => by subst e'; exact (h.row j hj).ne h.blk (by decide) eg
  · by_cases ej : j = i
    · subst ej
      rw [hu k hk fun e => hjk e.symm] at e'
      have := (h.row k hk).lt e'
      have := hat g e
      omega
    · rw [hu j hj ej] at e
      by_cases ek : k = i
      · subst ek
        have := (h.row j hj).lt e
        have := hat g e'
        omega
      · rw [hu k hk ek] at e'
        exact h.far j hj k hk hjk g e e'

theorem dropH_no (h : HeapAt w K H s) (g : Sound s) (hm : s.mv = false ∨ s.sc ≠ s.tn) :
    Calls Tryz.prog 20 #[.pointer (some ⟨H, 0, none⟩)] w fun e w' => e = .returned (.tuple #[.slice none 0 0, .bool false]) ∧ Below w.heap.size w w' := by
  obtain ⟨P, b, v0, v1, v2, v3, h, hF⟩ := h
  have M := scanned_any h g
  have c10 : w.cell? ⟨H, 10, none⟩ = some (.bool s.mv) := h.blk.cell 10
  clear h hF g
  by_cases e : s.mv = true
  · rw [e] at c10
    rw [decide_eq_false (hm.resolve_left fun e' => absurd (e.symm.trans e') (by decide))] at M
    clear hm e
    go_enter Tryz.func20, Tryz.ntmps20
    go_wp2_with fail
    refine M.mono ?_
    rintro e x ⟨rfl, hb⟩
    go_wp2
    go_ret2
    exact ⟨rfl, hb⟩
  · have e0 : s.mv = false := by cases h : s.mv <;> simp_all
    rw [e0] at c10
    clear hm e e0 M
    go_enter Tryz.func20, Tryz.ntmps20
    go_wp2
    go_ret2
    exact ⟨rfl, Below.refl _ _⟩

set_option maxRecDepth 100000 in
set_option maxHeartbeats 4000000 in
theorem dropH_yes (h : HeapIn w H P b v0 v1 v2 v3 s) (hF : ∀ k, Foot H P b v0 v1 v2 v3 k → K k) (g : Okw s) (hm : s.mv = true) (hsc : s.sc = s.tn) :
    Calls Tryz.prog 20 #[.pointer (some ⟨H, 0, none⟩)] w fun e w' => ∃ lv, e = .returned (.tuple #[lv, .bool true]) ∧ ReadsAs .i64 w' lv (nums (s.kept.lostL s.kept.wk)) ∧ Went w K H s.drop w' := by
  have M1 := scanned_any h g.sound
  rw [decide_eq_true hsc] at M1
  have c10 : w.cell? ⟨H, 10, none⟩ = some (.bool true) := by rw [← hm]; exact h.blk.cell 10
  have hwl : s.wk.length ≤ 1100000000000 := by have := g.wkl; have := g.sel; omega
  have hfl : s.fi.length ≤ 1100000000000 := by have := g.fil; have := g.sel; omega
  go_enter Tryz.func20, Tryz.ntmps20
  go_wp2_with fail
  refine M1.mono ?_
  rintro e x ⟨rfl, hb⟩
  have hx := h.on hb
  have hcx : Chg (· = H) w x := Chg.of_below hb (Nat.le_refl _)
  have c14 : x.cell? ⟨H, 14, none⟩ = some v2 := hx.blk.cell 14
  have M2 := splitH hx g v2 s.wk hx.r2.reads hwl g.inOk_wk
  clear M1 c10 hb
  go_wp2_with fail
  refine M2.mono ?_
  rintro e y ⟨kv, lv, rfl, hT, hb⟩
  have hkv : ∀ g, kv.ownBlock = some g → x.heap.size ≤ g := hT.vb
  have r1 := hT.r
  obtain ⟨ka, kc, rfl⟩ := own_slice r1
  have hky := (hx.on hb).blk
  have hly := hky.lt
  have f14 := hky.free 14
  have c14 : y.cell? ⟨H, 14, none⟩ = some v2 := hky.cell 14
  have hcs := (Chg.of_below (S := (· = H)) hb (Nat.le_refl _)).setCell (p := ⟨H, 14, none⟩) (.inl rfl) (.slice ka (keptL s s.wk).length kc)
  have h2 : HeapIn (y.setCell ⟨H, 14, none⟩ (.slice ka (keptL s s.wk).length kc)) H P b v0 v1 (.slice ka (keptL s s.wk).length kc) v3 { s with wk := keptL s s.wk } :=
    hx.newRow 2 (by omega) rfl (four (fun _ => rfl) (fun _ => rfl) (fun h => absurd rfl h) (fun _ => rfl)) (four (fun _ => rfl) (fun _ => rfl) (fun h => absurd rfl h) (fun _ => rfl)) (hky.set 14 _) hcs
      (r1.chg (S := (· = H)) ((Chg.refl (· = H) y).setCell (p := ⟨H, 14, none⟩) (.inl rfl) _) fun g e e' => by subst e'; exact r1.ne hky (by decide) e) hkv
  have hc2 := hcx.trans hcs
  go_upto_region 4 with fail
  generalize hW : y.setCell ⟨H, 14, none⟩ (.slice ka (keptL s s.wk).length kc) = y1 at *
  have HK2 : Hid (∀ k, (Value.slice ka (keptL s s.wk).length kc).ownBlock = some k → w.heap.size ≤ k) := Lib.hid fun k e => Nat.le_trans hcx.size (hkv k e)
  clear hW hcs hky f14 c14 r1 hkv hT hb hx hcx hly M2
  have g1 := g.keptW
  have c15 : y1.cell? ⟨H, 15, none⟩ = some v3 := h2.blk.cell 15
  have M3 := splitH h2 g1 v3 s.fi h2.r3.reads hfl g1.inOk_fi
  go_wp2_with fail
  refine M3.mono ?_
  rintro e z ⟨kv, lv2, rfl, hT, hb⟩
  have hkv : ∀ g, kv.ownBlock = some g → y1.heap.size ≤ g := hT.vb
  have r1 : RowIs z kv (keptL s s.fi) := hT.r
  obtain ⟨kb, kd, rfl⟩ := own_slice r1
  have hky := (h2.on hb).blk
  have hly := hky.lt
  have f15 := hky.free 15
  have c15 : z.cell? ⟨H, 15, none⟩ = some v3 := hky.cell 15
  have hcs := (Chg.of_below (S := (· = H)) hb (Nat.le_refl _)).setCell (p := ⟨H, 15, none⟩) (.inl rfl) (.slice kb (keptL s s.fi).length kd)
  have h3 : HeapIn (z.setCell ⟨H, 15, none⟩ (.slice kb (keptL s s.fi).length kd)) H P b v0 v1 (.slice ka (keptL s s.wk).length kc) (.slice kb (keptL s s.fi).length kd) s.kept :=
    h2.newRow 3 (by omega) rfl (four (fun _ => rfl) (fun _ => rfl) (fun _ => rfl) (fun h => absurd rfl h)) (four (fun _ => rfl) (fun _ => rfl) (fun _ => rfl) (fun h => absurd rfl h)) (hky.set 15 _) hcs
      (r1.chg (S := (· = H)) ((Chg.refl (· = H) z).setCell (p := ⟨H, 15, none⟩) (.inl rfl) _) fun g e e' => by subst e'; exact r1.ne hky (by decide) e) hkv
  have hc3 := hc2.trans hcs
  go_upto_region 5 with fail
  generalize hW : z.setCell ⟨H, 15, none⟩ (.slice kb (keptL s s.fi).length kd) = y2 at *
  have HK3 : Hid (∀ k, (Value.slice kb (keptL s s.fi).length kd).ownBlock = some k → w.heap.size ≤ k) := Lib.hid fun k e => Nat.le_trans hc2.size (hkv k e)
  clear hW hcs hky f15 c15 r1 hkv hT hb h2 hc2 hly M3
  have M4 := loosenH h3 g.kept g.kept_wk
  go_wp2_with fail
  refine M4.mono ?_
  rintro e z ⟨lv, rfl, hrl, hlow, h5, hcl⟩
  have hc5 : Chg (fun k => k = H ∨ k = b) w z := (hc3.mono fun k e => .inl e).trans (hcl.mono fun k e => .inr e)
  have g3 := (g.kept.looseL _ g.kept_wk).1
  have es3 := looseL_eq s.kept s.kept.wk
  clear M4 h3 hc3 hcl
  obtain ⟨k2, ek2⟩ : ∃ k, Value.slice ka (keptL s s.wk).length kc = k := ⟨_, rfl⟩
  obtain ⟨k3, ek3⟩ : ∃ k, Value.slice kb (keptL s s.fi).length kd = k := ⟨_, rfl⟩
  rw [ek2, ek3] at h5
  have hown2 : ∀ k, k2.ownBlock = some k → w.heap.size ≤ k := fun k e => by rw [← ek2] at e; exact HK2.out k e
  have hown3 : ∀ k, k3.ownBlock = some k → w.heap.size ≤ k := fun k e => by rw [← ek3] at e; exact HK3.out k e
  clear ek2 ek3
  have hd : s.drop = { s.kept.looseL s.kept.wk with mv := false, pk := [], tk := s.bk, ow := 0 } := rfl
  obtain ⟨s3, hs3⟩ : ∃ s3, s.kept.looseL s.kept.wk = s3 := ⟨_, rfl⟩
  rw [hs3] at h5 g3 es3 hd
  have hu3 : s3.u = s.u := by rw [es3]; rfl
  have hz3 : s3.z = s.z := by rw [es3]; rfl
  have htk : s3.tk = s.tk := by rw [es3]; rfl
  have Hd := Lib.hid hd
  clear hd hs3 es3
  rcases g.u01 with hu | hu
  · have hb3 : s3.base 1 = s.base 1 := by unfold Hp.base; rw [hz3]
    have htk3 : ({ s3 with mv := false } : Hp).top 1 = s3.tk := by unfold Hp.top; rw [if_neg (by show ¬ 1 = s3.u; rw [hu3, hu]; decide)]
    have hSp : SpOk (s.base 1) s3.z s3.tk := by
      have := g.k0; have := g.k1; have := g.z1; have := g.bases
      have hbk : s.bk = s.base 1 := by unfold Hp.bk; rw [hu]
      rw [hz3, htk, ← hbk]
      exact ⟨by omega, by omega, by omega, by omega⟩
    have HB3 := Lib.hid hb3
    have HT3 := Lib.hid htk3
    have HU3 := Lib.hid hu3
    have HZ3 := Lib.hid hz3
    have HTK := Lib.hid htk
    clear hb3 htk3 hu3 hz3 htk
    have M5 : Calls Tryz.prog 49 #[.pointer (some ⟨H, 0, none⟩)] z fun e w' => e = .returned (.int .i64 1) ∧ Below z.heap.size z w' := by
      have M := old_any h5 g3.u01
      rw [HU3.out, hu] at M
      exact M
    go_wp2_with fail
    refine M5.mono ?_
    rintro e z1 ⟨rfl, hb⟩
    have h6 := h5.on hb
    have hr6 := hrl.chg (S := fun _ => False) (Chg.of_below hb (Nat.le_refl _)) fun _ _ h => h
    have hc6 := hc5.trans (Chg.of_below hb (Nat.le_refl _))
    clear M5 hb h5 hrl hc5
    have hl6 := h6.blk.lt
    have f10 := h6.blk.free 10
    have d10 : z1.cell? ⟨H, 10, none⟩ = some (.bool s3.mv) := h6.blk.cell 10
    go_upto_region 8 with fail
    have hcs7 := (Chg.refl (· = H) z1).setCell (p := ⟨H, 10, none⟩) (.inl rfl) (.bool false)
    have h7 : HeapIn (z1.setCell ⟨H, 10, none⟩ (.bool false)) H P b v0 v1 k2 k3 { s3 with mv := false } := h6.cells hcs7 rfl (four rfl rfl rfl rfl) (h6.blk.set 10 _)
    have hr7 := hr6.chg hcs7 fun g e e' => by subst e'; exact hr6.ne h6.blk (by decide) e
    have hc7 := hc6.trans (hcs7.mono fun k e => .inl e)
    clear h6 hr6 hc6 hcs7 f10 d10
    generalize z1.setCell ⟨H, 10, none⟩ (.bool false) = y1 at *
    have ME := empty_ok (s.base 1) s3.z s3.tk hSp
    have h7d : HeapIn y1.drew H P b v0 v1 k2 k3 { s3 with mv := false } := h7.on (Below.refl _ y1).drew
    have e0 : y1.cell? ⟨H, 4, none⟩ = some (.int .i64 (s.base 1)) := by
      have := h7.blk.cell 4
      rw [← HB3.out]; exact this
    have e1 : y1.cell? ⟨H, 5, none⟩ = some (.int .i64 s3.z) := h7.blk.cell 5
    have e2 : y1.cell? ⟨H, 6, none⟩ = some (.int .i64 s3.tk) := by
      have := h7.blk.cell 6
      rw [← HT3.out]; exact this
    have hr7d : RowIs y1.drew lv (s.kept.lostL s.kept.wk) := hr7
    have hc7d := hc7.drew
    refine wp_region_noPanic ?_
    refine wp_region_held_drew (S := fun _ => True) (by kernel_rfl) trivial (fun hS => ?_)
    have hc_ : Cnt 0 := trivial
    iterate 7 ((first | (refine takeC hc_ (v := ?_) rfl (by kernel_rfl) (by kernel_rfl) (by kernel_rfl) (fun _ _ _ h => h) (Or.inl ⟨by rfl, ?_⟩) hS ?_; rotate_left; (· (intro y hy; (try dsimp only at hy); go_simp; try with_reducible rfl))) | refine takeC hc_ (v := undef) rfl (by kernel_rfl) (by kernel_rfl) (by kernel_rfl) (fun _ _ _ h => h) (Or.inr ⟨by rfl, rfl⟩) hS ?_); try simp only [Act.put, List.setIfInBounds_toArray, List.set_cons_zero, List.set_cons_succ, List.getElem_toArray, List.append, List.getElem_cons_zero, List.getElem_cons_succ]; replace hc_ := hc_.next; simp only [Nat.reduceAdd] at hc_)
    clear hc_
    have hc_ : Cnt 9 := trivial
    iterate 2 ((first | (refine takeC hc_ (v := ?_) rfl (by kernel_rfl) (by kernel_rfl) (by kernel_rfl) (fun _ _ _ h => h) (Or.inl ⟨by rfl, ?_⟩) hS ?_; rotate_left; (· (intro y hy; (try dsimp only at hy); go_simp; try with_reducible rfl))) | refine takeC hc_ (v := undef) rfl (by kernel_rfl) (by kernel_rfl) (by kernel_rfl) (fun _ _ _ h => h) (Or.inr ⟨by rfl, rfl⟩) hS ?_); try simp only [Act.put, List.setIfInBounds_toArray, List.set_cons_zero, List.set_cons_succ, List.getElem_toArray, List.append, List.getElem_cons_zero, List.getElem_cons_succ]; replace hc_ := hc_.next; simp only [Nat.reduceAdd] at hc_)
    clear hc_
    refine wpAnyH_ready (rs := [7]) (by kernel_rfl) (by simp) ?_
    refine AllReadyH.cons (o := _) rfl (fun K hK => ?_) AllReadyH.nil
    go_simp
    refine hK.out _ _ (trivial) (fun hS => ?_)
    clear hK K
    try simp only [Act.put, List.setIfInBounds_toArray, List.set_cons_zero, List.set_cons_succ]
    refine wpAnyH_ready (rs := [8]) (by kernel_rfl) (by simp) ?_
    refine AllReadyH.cons (o := _) rfl (fun K hK => ?_) AllReadyH.nil
    go_simp
    refine (ME _).mono ?_
    rintro e y2 ⟨rfl, hb⟩
    have h8 := h7d.on hb
    have hr8 := hr7d.chg (S := fun _ => False) (Chg.of_below hb (Nat.le_refl _)) fun _ _ h => h
    have hc8 := hc7d.trans (Chg.of_below hb (Nat.le_refl _))
    refine hK.out _ _ (trivial) (fun hS => ?_)
    clear hK K
    try simp only [Act.put, List.setIfInBounds_toArray, List.set_cons_zero, List.set_cons_succ]
    clear hb ME h7d hr7d hc7d h7 hr7 hc7 e0 e1 e2
    have hc_ : Cnt 11 := trivial
    iterate 1 ((first | (refine takeC hc_ (v := ?_) rfl (by kernel_rfl) (by kernel_rfl) (by kernel_rfl) (fun _ _ _ h => h) (Or.inl ⟨by rfl, ?_⟩) hS ?_; rotate_left; (· (intro y hy; (try dsimp only at hy); go_simp; try with_reducible rfl))) | refine takeC hc_ (v := undef) rfl (by kernel_rfl) (by kernel_rfl) (by kernel_rfl) (fun _ _ _ h => h) (Or.inr ⟨by rfl, rfl⟩) hS ?_); try simp only [Act.put, List.setIfInBounds_toArray, List.set_cons_zero, List.set_cons_succ, List.getElem_toArray, List.append, List.getElem_cons_zero, List.getElem_cons_succ]; replace hc_ := hc_.next; simp only [Nat.reduceAdd] at hc_)
    clear hc_
    refine wpAnyH_ready (rs := [12]) (by kernel_rfl) (by simp) ?_
    refine AllReadyH.cons (o := _) rfl (fun K hK => ?_) AllReadyH.nil
    have e0 : y2.cell? ⟨H, 4, none⟩ = some (.int .i64 (s.base 1)) := by
      have := h8.blk.cell 4
      rw [← HB3.out]; exact this
    have e1 : y2.cell? ⟨H, 5, none⟩ = some (.int .i64 s3.z) := h8.blk.cell 5
    have e2 : y2.cell? ⟨H, 6, none⟩ = some (.int .i64 s3.tk) := by
      have := h8.blk.cell 6
      rw [← HT3.out]; exact this
    have f0 := h8.blk.free 4
    have f1 := h8.blk.free 5
    have f2 := h8.blk.free 6
    have f3 := h8.blk.free 8
    have f4 := h8.blk.free 11
    have d3 : ∃ u, y2.cell? ⟨H, 8, none⟩ = some u := ⟨_, h8.blk.cell 8⟩
    obtain ⟨uu, d3⟩ := d3
    have d4 : y2.cell? ⟨H, 11, none⟩ = some (.int .i64 s3.ow) := h8.blk.cell 11
    have hl8 := h8.blk.lt
    go_simp
    refine hK.out _ _ (trivial) (fun hS => ?_)
    clear hK K
    try simp only [Act.put, List.setIfInBounds_toArray, List.set_cons_zero, List.set_cons_succ]
    refine wpAnyH_done (by kernel_rfl) ?_ _
    refine NoPanic.normal ?_
    go_wp2
    go_ret2
    have hcs := (((((Chg.refl (· = H) y2).setCell (p := ⟨H, 4, none⟩) (.inl rfl) (.int .i64 (s.base 1))).setCell (p := ⟨H, 5, none⟩) (.inl rfl) (.int .i64 s3.z)).setCell (p := ⟨H, 6, none⟩) (.inl rfl) (.int .i64 (s.base 1))).setCell (p := ⟨H, 8, none⟩) (.inl rfl) (.slice none 0 0)).setCell (p := ⟨H, 11, none⟩) (.inl rfl) (.int .i64 0)
    have hr9 := hr8.chg hcs fun g e e' => by subst e'; exact hr8.ne h8.blk (by decide) e
    have hc9 := hc8.trans (hcs.mono fun k e => .inl e)
    have t0 : ({ s3 with mv := false, pk := [], tk := s.bk, ow := 0 } : Hp).top 0 = ({ s3 with mv := false } : Hp).top 0 := by
      show (if 0 = s3.u then s3.tn else s.bk) = (if 0 = s3.u then s3.tn else s3.tk)
      rw [HU3.out, hu]; rfl
    have t1 : ({ s3 with mv := false, pk := [], tk := s.bk, ow := 0 } : Hp).top 1 = s.base 1 := by
      show (if 1 = s3.u then s3.tn else s.bk) = s.base 1
      rw [HU3.out, hu, if_neg (by decide)]
      unfold Hp.bk; rw [hu]
    have t2 : ({ s3 with mv := false, pk := [], tk := s.bk, ow := 0 } : Hp).base 1 = s.base 1 := HB3.out
    have hfin : HeapIn (((((y2.setCell ⟨H, 4, none⟩ (.int .i64 (s.base 1))).setCell ⟨H, 5, none⟩ (.int .i64 s3.z)).setCell ⟨H, 6, none⟩ (.int .i64 (s.base 1))).setCell ⟨H, 8, none⟩ (.slice none 0 0)).setCell ⟨H, 11, none⟩ (.int .i64 0)) H P b v0 (.slice none 0 0) k2 k3 { s3 with mv := false, pk := [], tk := s.bk, ow := 0 } := by
      refine h8.newRow (u0 := v0) (u1 := (.slice none 0 0)) (u2 := k2) (u3 := k3) 1 (by omega) rfl (four (fun _ => rfl) (fun h => absurd rfl h) (fun _ => rfl) (fun _ => rfl)) (four (fun _ => ?_) (fun h => absurd rfl h) (fun _ => rfl) (fun _ => rfl)) ?_ hcs ?_ (fun g e => absurd e (by simp [vsel, Value.ownBlock]))
      · show (if 0 = s3.u then s3.pn else ([] : List Nat)) = (if 0 = s3.u then s3.pn else s3.pk)
        rw [HU3.out, hu]; rfl
      · rw [t0, t1, t2]
        exact ((((h8.blk.set 4 _).set 5 _).set 6 _).set 8 _).set 11 _
      · have e : ({ s3 with mv := false, pk := [], tk := s.bk, ow := 0 } : Hp).rows 1 = [] := by
          show (if 1 = s3.u then s3.pn else ([] : List Nat)) = []
          rw [HU3.out, hu]; rfl
        rw [e]
        exact World.ownsRow_nil _ _ _ _
    refine ⟨lv, rfl, hr9.reads, ?_⟩
    rw [Hd.out]
    have hown : ∀ i, i < 4 → ∀ k, (vsel v0 (.slice none 0 0) k2 k3 i).ownBlock = some k → K k ∨ w.heap.size ≤ k := four (fun k e => .inl (hF k (foot_row (by omega : 0 < 4) e))) (fun k e => absurd e (by simp [vsel, Value.ownBlock])) (fun k e => .inr (hown2 k e)) (fun k e => .inr (hown3 k e))
    have hlv : ∀ k, Foot H P b v0 (.slice none 0 0) k2 k3 k → K k ∨ w.heap.size ≤ k := fun k hk => by
      rcases foot_of hk with e | e | e | ⟨i, hi, e⟩
      · exact .inl (hF k (.inl e))
      · exact .inl (hF k (.inr (.inl e)))
      · exact .inl (hF k (.inr (.inr (.inl e))))
      · exact hown i hi k e
    exact ⟨fun k => K k ∨ w.heap.size ≤ k, ⟨P, b, _, _, k2, k3, hfin, hlv⟩, fun k hk => hk, hc9.mono fun k e => e.elim (fun e => hF k (.inl e)) fun e => hF k (.inr (.inr (.inl e)))⟩
  · have hb3 : s3.base 0 = s.base 0 := by unfold Hp.base; rw [hz3]
    have htk3 : ({ s3 with mv := false } : Hp).top 0 = s3.tk := by unfold Hp.top; rw [if_neg (by show ¬ 0 = s3.u; rw [hu3, hu]; decide)]
    have hSp : SpOk (s.base 0) s3.z s3.tk := by
      have := g.k0; have := g.k1; have := g.z1; have := g.bases
      have hbk : s.bk = s.base 0 := by unfold Hp.bk; rw [hu]
      rw [hz3, htk, ← hbk]
      exact ⟨by omega, by omega, by omega, by omega⟩
    have HB3 := Lib.hid hb3
    have HT3 := Lib.hid htk3
    have HU3 := Lib.hid hu3
    have HZ3 := Lib.hid hz3
    have HTK := Lib.hid htk
    clear hb3 htk3 hu3 hz3 htk
    have M5 : Calls Tryz.prog 49 #[.pointer (some ⟨H, 0, none⟩)] z fun e w' => e = .returned (.int .i64 0) ∧ Below z.heap.size z w' := by
      have M := old_any h5 g3.u01
      rw [HU3.out, hu] at M
      exact M
    go_wp2_with fail
    refine M5.mono ?_
    rintro e z1 ⟨rfl, hb⟩
    have h6 := h5.on hb
    have hr6 := hrl.chg (S := fun _ => False) (Chg.of_below hb (Nat.le_refl _)) fun _ _ h => h
    have hc6 := hc5.trans (Chg.of_below hb (Nat.le_refl _))
    clear M5 hb h5 hrl hc5
    have hl6 := h6.blk.lt
    have f10 := h6.blk.free 10
    have d10 : z1.cell? ⟨H, 10, none⟩ = some (.bool s3.mv) := h6.blk.cell 10
    go_upto_region 8 with fail
    have hcs7 := (Chg.refl (· = H) z1).setCell (p := ⟨H, 10, none⟩) (.inl rfl) (.bool false)
    have h7 : HeapIn (z1.setCell ⟨H, 10, none⟩ (.bool false)) H P b v0 v1 k2 k3 { s3 with mv := false } := h6.cells hcs7 rfl (four rfl rfl rfl rfl) (h6.blk.set 10 _)
    have hr7 := hr6.chg hcs7 fun g e e' => by subst e'; exact hr6.ne h6.blk (by decide) e
    have hc7 := hc6.trans (hcs7.mono fun k e => .inl e)
    clear h6 hr6 hc6 hcs7 f10 d10
    generalize z1.setCell ⟨H, 10, none⟩ (.bool false) = y1 at *
    have ME := empty_ok (s.base 0) s3.z s3.tk hSp
    have h7d : HeapIn y1.drew H P b v0 v1 k2 k3 { s3 with mv := false } := h7.on (Below.refl _ y1).drew
    have e0 : y1.cell? ⟨H, 1, none⟩ = some (.int .i64 (s.base 0)) := by
      have := h7.blk.cell 1
      rw [← HB3.out]; exact this
    have e1 : y1.cell? ⟨H, 2, none⟩ = some (.int .i64 s3.z) := h7.blk.cell 2
    have e2 : y1.cell? ⟨H, 3, none⟩ = some (.int .i64 s3.tk) := by
      have := h7.blk.cell 3
      rw [← HT3.out]; exact this
    have hr7d : RowIs y1.drew lv (s.kept.lostL s.kept.wk) := hr7
    have hc7d := hc7.drew
    refine wp_region_noPanic ?_
    refine wp_region_held_drew (S := fun _ => True) (by kernel_rfl) trivial (fun hS => ?_)
    have hc_ : Cnt 0 := trivial
    iterate 7 ((first | (refine takeC hc_ (v := ?_) rfl (by kernel_rfl) (by kernel_rfl) (by kernel_rfl) (fun _ _ _ h => h) (Or.inl ⟨by rfl, ?_⟩) hS ?_; rotate_left; (· (intro y hy; (try dsimp only at hy); go_simp; try with_reducible rfl))) | refine takeC hc_ (v := undef) rfl (by kernel_rfl) (by kernel_rfl) (by kernel_rfl) (fun _ _ _ h => h) (Or.inr ⟨by rfl, rfl⟩) hS ?_); try simp only [Act.put, List.setIfInBounds_toArray, List.set_cons_zero, List.set_cons_succ, List.getElem_toArray, List.append, List.getElem_cons_zero, List.getElem_cons_succ]; replace hc_ := hc_.next; simp only [Nat.reduceAdd] at hc_)
    clear hc_
    have hc_ : Cnt 9 := trivial
    iterate 2 ((first | (refine takeC hc_ (v := ?_) rfl (by kernel_rfl) (by kernel_rfl) (by kernel_rfl) (fun _ _ _ h => h) (Or.inl ⟨by rfl, ?_⟩) hS ?_; rotate_left; (· (intro y hy; (try dsimp only at hy); go_simp; try with_reducible rfl))) | refine takeC hc_ (v := undef) rfl (by kernel_rfl) (by kernel_rfl) (by kernel_rfl) (fun _ _ _ h => h) (Or.inr ⟨by rfl, rfl⟩) hS ?_); try simp only [Act.put, List.setIfInBounds_toArray, List.set_cons_zero, List.set_cons_succ, List.getElem_toArray, List.append, List.getElem_cons_zero, List.getElem_cons_succ]; replace hc_ := hc_.next; simp only [Nat.reduceAdd] at hc_)
    clear hc_
    refine wpAnyH_ready (rs := [7]) (by kernel_rfl) (by simp) ?_
    refine AllReadyH.cons (o := _) rfl (fun K hK => ?_) AllReadyH.nil
    go_simp
    refine hK.out _ _ (trivial) (fun hS => ?_)
    clear hK K
    try simp only [Act.put, List.setIfInBounds_toArray, List.set_cons_zero, List.set_cons_succ]
    refine wpAnyH_ready (rs := [8]) (by kernel_rfl) (by simp) ?_
    refine AllReadyH.cons (o := _) rfl (fun K hK => ?_) AllReadyH.nil
    go_simp
    refine (ME _).mono ?_
    rintro e y2 ⟨rfl, hb⟩
    have h8 := h7d.on hb
    have hr8 := hr7d.chg (S := fun _ => False) (Chg.of_below hb (Nat.le_refl _)) fun _ _ h => h
    have hc8 := hc7d.trans (Chg.of_below hb (Nat.le_refl _))
    refine hK.out _ _ (trivial) (fun hS => ?_)
    clear hK K
    try simp only [Act.put, List.setIfInBounds_toArray, List.set_cons_zero, List.set_cons_succ]
    clear hb ME h7d hr7d hc7d h7 hr7 hc7 e0 e1 e2
    have hc_ : Cnt 11 := trivial
    iterate 1 ((first | (refine takeC hc_ (v := ?_) rfl (by kernel_rfl) (by kernel_rfl) (by kernel_rfl) (fun _ _ _ h => h) (Or.inl ⟨by rfl, ?_⟩) hS ?_; rotate_left; (· (intro y hy; (try dsimp only at hy); go_simp; try with_reducible rfl))) | refine takeC hc_ (v := undef) rfl (by kernel_rfl) (by kernel_rfl) (by kernel_rfl) (fun _ _ _ h => h) (Or.inr ⟨by rfl, rfl⟩) hS ?_); try simp only [Act.put, List.setIfInBounds_toArray, List.set_cons_zero, List.set_cons_succ, List.getElem_toArray, List.append, List.getElem_cons_zero, List.getElem_cons_succ]; replace hc_ := hc_.next; simp only [Nat.reduceAdd] at hc_)
    clear hc_
    refine wpAnyH_ready (rs := [12]) (by kernel_rfl) (by simp) ?_
    refine AllReadyH.cons (o := _) rfl (fun K hK => ?_) AllReadyH.nil
    have e0 : y2.cell? ⟨H, 1, none⟩ = some (.int .i64 (s.base 0)) := by
      have := h8.blk.cell 1
      rw [← HB3.out]; exact this
    have e1 : y2.cell? ⟨H, 2, none⟩ = some (.int .i64 s3.z) := h8.blk.cell 2
    have e2 : y2.cell? ⟨H, 3, none⟩ = some (.int .i64 s3.tk) := by
      have := h8.blk.cell 3
      rw [← HT3.out]; exact this
    have f0 := h8.blk.free 1
    have f1 := h8.blk.free 2
    have f2 := h8.blk.free 3
    have f3 := h8.blk.free 7
    have f4 := h8.blk.free 11
    have d3 : ∃ u, y2.cell? ⟨H, 7, none⟩ = some u := ⟨_, h8.blk.cell 7⟩
    obtain ⟨uu, d3⟩ := d3
    have d4 : y2.cell? ⟨H, 11, none⟩ = some (.int .i64 s3.ow) := h8.blk.cell 11
    have hl8 := h8.blk.lt
    go_simp
    refine hK.out _ _ (trivial) (fun hS => ?_)
    clear hK K
    try simp only [Act.put, List.setIfInBounds_toArray, List.set_cons_zero, List.set_cons_succ]
    refine wpAnyH_done (by kernel_rfl) ?_ _
    refine NoPanic.normal ?_
    go_wp2
    go_ret2
    have hcs := (((((Chg.refl (· = H) y2).setCell (p := ⟨H, 1, none⟩) (.inl rfl) (.int .i64 (s.base 0))).setCell (p := ⟨H, 2, none⟩) (.inl rfl) (.int .i64 s3.z)).setCell (p := ⟨H, 3, none⟩) (.inl rfl) (.int .i64 (s.base 0))).setCell (p := ⟨H, 7, none⟩) (.inl rfl) (.slice none 0 0)).setCell (p := ⟨H, 11, none⟩) (.inl rfl) (.int .i64 0)
    have hr9 := hr8.chg hcs fun g e e' => by subst e'; exact hr8.ne h8.blk (by decide) e
    have hc9 := hc8.trans (hcs.mono fun k e => .inl e)
    have t0 : ({ s3 with mv := false, pk := [], tk := s.bk, ow := 0 } : Hp).top 1 = ({ s3 with mv := false } : Hp).top 1 := by
      show (if 1 = s3.u then s3.tn else s.bk) = (if 1 = s3.u then s3.tn else s3.tk)
      rw [HU3.out, hu]; rfl
    have t1 : ({ s3 with mv := false, pk := [], tk := s.bk, ow := 0 } : Hp).top 0 = s.base 0 := by
      show (if 0 = s3.u then s3.tn else s.bk) = s.base 0
      rw [HU3.out, hu, if_neg (by decide)]
      unfold Hp.bk; rw [hu]
    have t2 : ({ s3 with mv := false, pk := [], tk := s.bk, ow := 0 } : Hp).base 0 = s.base 0 := HB3.out
    have hfin : HeapIn (((((y2.setCell ⟨H, 1, none⟩ (.int .i64 (s.base 0))).setCell ⟨H, 2, none⟩ (.int .i64 s3.z)).setCell ⟨H, 3, none⟩ (.int .i64 (s.base 0))).setCell ⟨H, 7, none⟩ (.slice none 0 0)).setCell ⟨H, 11, none⟩ (.int .i64 0)) H P b (.slice none 0 0) v1 k2 k3 { s3 with mv := false, pk := [], tk := s.bk, ow := 0 } := by
      refine h8.newRow (u0 := (.slice none 0 0)) (u1 := v1) (u2 := k2) (u3 := k3) 0 (by omega) rfl (four (fun h => absurd rfl h) (fun _ => rfl) (fun _ => rfl) (fun _ => rfl)) (four (fun h => absurd rfl h) (fun _ => ?_) (fun _ => rfl) (fun _ => rfl)) ?_ hcs ?_ (fun g e => absurd e (by simp [vsel, Value.ownBlock]))
      · show (if 1 = s3.u then s3.pn else ([] : List Nat)) = (if 1 = s3.u then s3.pn else s3.pk)
        rw [HU3.out, hu]; rfl
      · rw [t0, t1, t2]
        exact ((((h8.blk.set 1 _).set 2 _).set 3 _).set 7 _).set 11 _
      · have e : ({ s3 with mv := false, pk := [], tk := s.bk, ow := 0 } : Hp).rows 0 = [] := by
          show (if 0 = s3.u then s3.pn else ([] : List Nat)) = []
          rw [HU3.out, hu]; rfl
        rw [e]
        exact World.ownsRow_nil _ _ _ _
    refine ⟨lv, rfl, hr9.reads, ?_⟩
    rw [Hd.out]
    have hown : ∀ i, i < 4 → ∀ k, (vsel (.slice none 0 0) v1 k2 k3 i).ownBlock = some k → K k ∨ w.heap.size ≤ k := four (fun k e => absurd e (by simp [vsel, Value.ownBlock])) (fun k e => .inl (hF k (foot_row (by omega : 1 < 4) e))) (fun k e => .inr (hown2 k e)) (fun k e => .inr (hown3 k e))
    have hlv : ∀ k, Foot H P b (.slice none 0 0) v1 k2 k3 k → K k ∨ w.heap.size ≤ k := fun k hk => by
      rcases foot_of hk with e | e | e | ⟨i, hi, e⟩
      · exact .inl (hF k (.inl e))
      · exact .inl (hF k (.inr (.inl e)))
      · exact .inl (hF k (.inr (.inr (.inl e))))
      · exact hown i hi k e
    exact ⟨fun k => K k ∨ w.heap.size ≤ k, ⟨P, b, _, _, k2, k3, hfin, hlv⟩, fun k hk => hk, hc9.mono fun k e => e.elim (fun e => hF k (.inl e)) fun e => hF k (.inr (.inr (.inl e)))⟩
end

end Go.Proofs.YtbjmeibcphmgbaaGreat

namespace Go.Proofs.YtbjmeibcphmgbaaGreat
open Go.ChangeShapes Go.WideShapes Go.ChangeAt Go.RowKit

set_option linter.unusedSimpArgs false
set_option linter.unusedVariables false

/-- The list of those to be finalized becomes those of it that are in the space in use. -/
theorem Ok.fins {s : Hp} (h : Ok s) : Ok { s with fi := keptL s s.fi } :=
  ⟨h.toOkw.lists s.wk (keptL s s.fi) h.wks h.wka (fun a ha => .inl (mem_keptL.1 ha).2) (Nat.le_refl _) (keptL_len s s.fi), h.wkb⟩
theorem leftL_pk {s : Hp} (h : Okw s) {a : Nat} (ha : a ∈ leftL s s.fi) : a ∈ s.pk ∧ isOb s.l a := by
  unfold leftL at ha
  rw [List.mem_filter, List.mem_map] at ha
  obtain ⟨⟨b, hb, e⟩, hn⟩ := ha
  have hn' : ¬ a ∈ s.pn := by simpa using hn
  have hi := h.fwd_in (h.inOk_fi b hb)
  rw [e] at hi
  have h0 : a ≠ 0 := by
    intro e0
    rw [e0] at e
    rcases h.fin b hb with q | q
    · have := ((h.inn b q).2.1).fwd
      have := (h.pn_lt q).1
      omega
    · rcases (h.ink b q).2.2 with r | ⟨n, hn1, r⟩
      · have := r.1.fwd
        have := (h.pk_lt q).1
        omega
      · have := (gone_fwd r).1
        have := (h.pn_lt hn1).1
        omega
  rcases hi.2 with e1 | e1 | e1
  · exact absurd e1 h0
  · exact absurd e1 hn'
  · exact e1
/-- An object's head is set to the same with another mark. -/
theorem Ok.mark {s : Hp} (h : Ok s) {x : Nat} (hx : Live s x) (tf : Bool) {p d : Nat} {wk fn fr : Bool} (ho : ObjIs s.l x p d wk fn fr) : Ok (s.put x (headN p d wk fn tf : Nat)) := by
  have hn := (h.live_ob hx).nA_le
  have hf : ObjIs (s.l.set x (headN p d wk fn tf : Nat)) x p d wk fn tf := by
    exact ⟨ho.right, ho.ptrs, ho.data, by rw [List.length_set]; exact ho.room, by rw [set_at' (by omega), if_pos rfl]⟩
  have h0x : 0 < x := hx.elim (fun e => (h.pn_lt e).1) fun e => (h.pk_lt e.1).1
  have hin : x ∈ s.pn ∨ x ∈ s.pk := hx.imp id fun e => e.1
  have e1 := hdW_obj ho
  have e2 := hdW_obj hf
  have hh : ∀ y, y ∈ s.pn ∨ y ∈ s.pk → HeadLike s.l (s.l.set x (headN p d wk fn tf : Nat)) y := fun y hy => by
    have hyl : y < s.l.length := hy.elim (fun e => (h.pn_lt e).2.2) fun e => (h.pk_lt e).2
    by_cases e : x = y
    · subst e
      exact .inr ⟨⟨_, _, _, _, _, ho⟩, ⟨_, _, _, _, _, hf⟩, by rw [e1.2.1, e2.2.1], by rw [e1.2.2.1, e2.2.2.1], by rw [e1.2.2.2.1, e2.2.2.2.1], by rw [e1.2.2.2.2.1, e2.2.2.2.2.1]⟩
    · exact .inl (by rw [set_at' hyl, if_neg (by omega)])
  have hw0 : ∀ y, Live s y → ∀ t, 0 < t → t < nA s.l y → (s.l.set x (headN p d wk fn tf : Nat)).getD (y + t) 0 = s.l.getD (y + t) 0 := fun y hy t t0 ht => by
    have hyo := (h.live_ob hy).nA_le
    rw [set_at' (by omega), if_neg]
    by_cases e : y = x
    · omega
    · exact (h.live_apart hy hin e ht).1
  refine h.again (l' := s.l.set x (headN p d wk fn tf : Nat)) (sc' := s.sc) (h.toOkw.rewrite _ _ (by simp) ?_ hh ?_ ?_ ?_ h.scn) (by simp) hh
  · rw [set_at' (by omega), if_neg (by omega)]; exact h.zero
  · intro y hy
    have := (h.live_ob hy).nA_le
    exact hw0 y hy 2 (by omega) (by omega)
  · intro y hy i hi
    rw [hw0 y hy (3 + i) (by omega) (by unfold nA; omega)]
    exact h.ptr y hy i hi
  · intro hm y hy hsc hwk i hi
    rw [hw0 y (.inl hy) (3 + i) (by omega) (by unfold nA; omega)]
    exact h.blk hm y hy hsc hwk i hi

end Go.Proofs.YtbjmeibcphmgbaaGreat

namespace Go.Proofs.YtbjmeibcphmgbaaGreat
open Go.ChangeShapes Go.WideShapes Go.ChangeAt Go.RowKit

set_option linter.unusedSimpArgs false
set_option linter.unusedVariables false

theorem not_head_even {v : Nat} (h : v % 2 = 0) : isHead v = false := by
  cases e : isHead v
  · rfl
  · exfalso
    unfold isHead at e
    rw [Bool.and_eq_true, decide_eq_true_iff] at e
    obtain ⟨e1, e2⟩ := e
    unfold headV at e2
    rw [if_pos e1] at e2
    unfold headN at e2
    omega

/-- No head stands at a place: no shape. -/
theorem shape_not {P b : Nat} {l : List Int} (a v : Nat) (w : World) (h : ArenaAt 146 w P b l) (ha : a < l.length) (h0 : l.getD a 0 = (v : Int)) (hv : v < 18446744073709551616) (hn : isHead v = false) :
    Calls Tryz.prog 56 #[.pointer (some ⟨P, 0, none⟩), .int .i64 a] w fun e w' => e = .returned (.tuple #[shV 0 0 false false, .bool false, .int .i64 70]) ∧ Below w.heap.size w w' := by
  have hlt := h.lt
  have HL := load_there a _ (h.below ((Below.refl _ w).alloc (Nat.le_refl _) (.cells #[.int .i64 0, .int .i64 0, .bool false, .bool false] 45)) hlt.1 hlt.2) ha
  rw [h0] at HL
  have HS : ∀ w, Calls Tryz.prog 91 #[.int .u64 v] w fun e w' => e = .returned (.tuple #[shV 0 0 false false, .bool false, .bool false]) ∧ Below w.heap.size w w' := fun w => by
    have := shape_any v hv w
    rw [hn] at this
    exact this
  have hT := ResAt.new w #[.int .i64 0, .int .i64 0, .bool false, .bool false] 45
  have HZ : ∀ w, Calls Tryz.prog 92 #[shV 0 0 false false] w fun e w' => e = .returned (.tuple #[.int .i64 3, .bool true]) ∧ Below w.heap.size w w' := fun w => size_yes 0 0 false false (by decide) (by decide) (by decide) w
  clear hn h0
  go_enter Tryz.func56, Tryz.ntmps56
  go_wp2_with fail
  refine HL.mono ?_
  rintro e x ⟨rfl, rfl⟩
  go_wp2_with fail
  refine (HS _).mono ?_
  rintro e x ⟨rfl, hb⟩
  replace hT := hT.keep hb
  clear hb
  obtain ⟨⟨c0, c1, c2, c3⟩, f0, f1, f2, f3, l1⟩ := hT.facts4
  go_wp2_with fail
  replace hT := (((hT.set 0 (.int .i64 0)).set 1 (.int .i64 0)).set 2 (.bool false)).set 3 (.bool false)
  clear c0 c1 c2 c3 f0 f1 f2 f3 l1
  refine (HZ _).mono ?_
  rintro e y ⟨rfl, hb⟩
  replace hT := hT.keep hb
  clear hb HL HS HZ
  obtain ⟨⟨c0, c1, c2, c3⟩, f0, f1, f2, f3, l1⟩ := hT.facts4
  go_wp2
  replace hT := (((hT.set 0 (.int .i64 0)).set 1 (.int .i64 0)).set 2 (.bool false)).set 3 (.bool false)
  obtain ⟨⟨e0, e1, e2, e3⟩, _⟩ := hT.facts4
  refine bodyPost_ret (v := .tuple #[shV 0 0 false false, .bool false, .int .i64 70]) ?_ rfl ⟨rfl, hT.below⟩
  simp [results, Tryz.f56, go_sem, e0, e1, e2, e3]

/-- An object's pointers, the first k of them turned. -/
def turnL (s : Hp) (m : List Int) (a k : Nat) : List Int := layL m (a + 3) (fun i => ((fwd s.l (m.getD (a + (3 + i)) 0).toNat : Nat) : Int)) k
theorem turnL_at {s : Hp} {m : List Int} {a k j : Nat} (h : j < m.length) : (turnL s m a k).getD j 0 = if a + 3 ≤ j ∧ j < a + 3 + k then ((fwd s.l (m.getD (a + (3 + (j - (a + 3)))) 0).toNat : Nat) : Int) else m.getD j 0 := layL_at _ _ _ _ _ h
section
variable {w : World} {H P b P2 b2 : Nat} {v0 v1 v2 v3 : Value} {s : Hp} {m : List Int}
theorem turnH_gone (h : HeapIn w H P b v0 v1 v2 v3 s) (hA : ArenaAt 146 w P2 b2 m) (a v : Nat) (ha : a < m.length) (h0 : m.getD a 0 = (v : Int)) (hv : v < 18446744073709551616) (he : v % 2 = 0) :
    Calls Tryz.prog 98 #[.pointer (some ⟨H, 0, none⟩), .pointer (some ⟨P2, 0, none⟩), .int .i64 a] w fun e w' => e = .returned (.tuple #[]) ∧ Below w.heap.size w w' := by
  have M := shape_not a v w hA ha h0 hv (not_head_even he)
  clear h hA
  go_enter Tryz.func98, Tryz.ntmps98
  go_wp2_with fail
  refine M.mono ?_
  rintro e x ⟨rfl, hb⟩
  have hba := hb.alloc hb.size (.cells #[.int .i64 0, .int .i64 0, .bool false, .bool false] 45)
  go_wp2
  go_loopw [21] (fun i wr => i = .int .i64 0 ∧ Below w.heap.size w wr) (fun i _ => 0)
  case atStart => exact ⟨rfl, hba⟩
  case round =>
    obtain ⟨rfl, hB⟩ := hrel
    go_wp2
    go_end0
    exact ⟨rfl, hB⟩

set_option maxRecDepth 100000 in
set_option maxHeartbeats 2000000 in
theorem turnH_obj (h : HeapIn w H P b v0 v1 v2 v3 s) (g : Okw s) (hA : ArenaAt 146 w P2 b2 m) (hf : ¬ Foot H P b v0 v1 v2 v3 b2) {p d : Nat} {wk fn fr : Bool} (a : Nat) (o : ObjIs m a p d wk fn fr) (hp' : ∀ i, i < p → InOk s (m.getD (a + (3 + i)) 0).toNat ∧ 0 ≤ m.getD (a + (3 + i)) 0) :
    Calls Tryz.prog 98 #[.pointer (some ⟨H, 0, none⟩), .pointer (some ⟨P2, 0, none⟩), .int .i64 a] w fun e w' => e = .returned (.tuple #[]) ∧ ArenaAt 146 w' P2 b2 (turnL s m a p) ∧ Chg (· = b2) w w' := by
  have M := shape_at a w hA o
  have hlt := hA.lt
  have hkey : ∀ k, turnL s m a (k + 1) = (turnL s m a k).set (a + (3 + k)) ((fwd s.l (m.getD (a + (3 + k)) 0).toNat : Nat) : Int) := fun k => by
    show (layL _ _ _ k).set (a + 3 + k) _ = _
    rw [Nat.add_assoc]
    rfl
  have hob : ∀ k, ObjIs (turnL s m a k) a p d wk fn fr := fun k => o.same (layL_length ..) (by
    have := o.room
    rw [turnL_at (by omega), if_neg (by omega)])
  have hsame : ∀ k, k < p → (turnL s m a k).getD (a + (3 + k)) 0 = m.getD (a + (3 + k)) 0 := fun k hk => by
    have := o.room
    rw [turnL_at (by omega), if_neg (by omega)]
  have hp8 := o.ptrs
  have Hkey := Lib.hid hkey
  have Hob := Lib.hid hob
  have Hsame := Lib.hid hsame
  have Hp' := Lib.hid hp'
  clear hkey hob hsame hp'
  have hL0 : turnL s m a 0 = m := rfl
  generalize turnL s m a = L at *
  have hl2 := hA.lt
  go_enter Tryz.func98, Tryz.ntmps98
  go_wp2_with fail
  refine M.mono ?_
  rintro e x ⟨rfl, hb⟩
  have hba := hb.alloc hb.size (.cells #[.int .i64 p, .int .i64 d, .bool wk, .bool fn] 45)
  go_wp2
  go_loopw [21] (fun i wr => ∃ k : Nat, k ≤ p ∧ i = .int .i64 k ∧ ArenaAt 146 wr P2 b2 (L k) ∧ Chg (· = b2) w wr) (fun i _ => p - (intOf i).toNat)
  case atStart => exact ⟨0, by omega, rfl, by rw [hL0]; exact hA.below hba hl2.1 hl2.2, Chg.of_below hba (Nat.le_refl _)⟩
  case round =>
    obtain ⟨k, hk, rfl, hA2, hC⟩ := hrel
    by_cases hlt3 : k < p
    · obtain ⟨q1, q2⟩ := Hp'.out k hlt3
      have hbd := g.inOk_le q1
      have hfi := (g.fwd_in q1).1
      have hfb := g.inOk_le hfi
      have ok := Hob.out k
      have M1 := ptr_at a k wr hA2 ok hlt3 (by rw [Hsame.out k hlt3]; omega)
      rw [Hsame.out k hlt3] at M1
      have M2 := fun y (hy : Chg (· = b2) w y) => nowH (h.chg hy fun k hk e => hf (by subst e; exact hk)) g _ q1
      have M3 := fun y (hy : ArenaAt 146 y P2 b2 (L k)) => setPtr_at a k (fwd s.l (m.getD (a + (3 + k)) 0).toNat) y hy ok hlt3 (by omega)
      rw [← Hkey.out k] at M3
      have ev : m.getD (a + (3 + k)) 0 = ((m.getD (a + (3 + k)) 0).toNat : Int) := by omega
      rw [ev] at M1
      generalize (m.getD (a + (3 + k)) 0).toNat = v at *
      generalize fwd s.l v = u at *
      clear ev q1 q2 ok hfi hfb hbd
      go_wp2_with fail
      refine M1.mono ?_
      rintro e y1 ⟨rfl, hb1⟩
      have hA3 := hA2.below hb1 hA2.lt.1 hA2.lt.2
      have hC3 := hC.trans (Chg.of_below hb1 (Nat.le_refl _))
      clear hb1 M1 hA2 hC
      go_wp2_with fail
      refine (M2 _ hC3).mono ?_
      rintro e y2 ⟨rfl, hb1⟩
      have hA4 := hA3.below hb1 hA3.lt.1 hA3.lt.2
      have hC4 := hC3.trans (Chg.of_below hb1 (Nat.le_refl _))
      clear hb1 M2 hA3 hC3
      go_wp2_with fail
      refine (M3 _ hA4).mono ?_
      rintro e y3 ⟨rfl, hA5, hC5⟩
      go_wp2
      go_roundw
      case rel => exact ⟨k + 1, by omega, by go_num, hA5, hC4.trans hC5⟩
      case measure => simp [intOf]; omega
    · obtain rfl : k = p := by omega
      go_wp2
      go_end0
      exact ⟨rfl, hA2, hC⟩
end

end Go.Proofs.YtbjmeibcphmgbaaGreat

namespace Go.Proofs.YtbjmeibcphmgbaaGreat
open Go.ChangeShapes Go.WideShapes Go.ChangeAt Go.RowKit

set_option linter.unusedSimpArgs false
set_option linter.unusedVariables false

/-- Each space by its number: where it lies, where its objects are. -/
theorem Okw.space {s : Hp} (g : Okw s) {i : Nat} (hi : i = 0 ∨ i = 1) : 1 ≤ s.base i ∧ s.base i ≤ s.top i ∧ s.top i ≤ s.base i + s.z ∧ s.base i + s.z ≤ s.l.length ∧ (s.pl i).length ≤ 16384 ∧
    ∀ x ∈ s.pl i, s.base i ≤ x ∧ x < s.top i ∧ ((isOb s.l x ∧ x + nA s.l x ≤ s.top i ∧ Live s x) ∨ (∃ v : Nat, s.l.getD x 0 = (v : Int) ∧ v < 18446744073709551616 ∧ v % 2 = 0 ∧ ¬ Live s x)) := by
  have hb := g.bases
  have hl := g.len
  have h1 := g.z1
  have hu := g.u01
  by_cases e : i = s.u
  · have e1 : s.base i = s.bn := by unfold Hp.bn; rw [e]
    have e2 : s.top i = s.tn := if_pos e
    have e3 : s.pl i = s.pn := if_pos e
    have h2 := g.t0
    have h3 := g.room
    rw [e1, e2, e3]
    refine ⟨by omega, h2, by omega, by omega, by have := g.ln; omega, fun x hx => ?_⟩
    obtain ⟨a1, a2, a3⟩ := g.inn x hx
    have := a2.nA_le
    exact ⟨a1, by omega, .inl ⟨a2, by omega, .inl hx⟩⟩
  · have e0 : i = 1 - s.u := by omega
    have e1 : s.base i = s.bk := by unfold Hp.bk; rw [e0]
    have e2 : s.top i = s.tk := if_neg e
    have e3 : s.pl i = s.pk := if_neg e
    have h2 := g.k0
    have h3 := g.k1
    rw [e1, e2, e3]
    refine ⟨by omega, h2, h3, by omega, g.lk, fun x hx => ?_⟩
    obtain ⟨a1, a2, a3⟩ := g.ink x hx
    refine ⟨a1, a2, ?_⟩
    rcases a3 with ⟨a3, a4⟩ | ⟨n, hn, a3⟩
    · have := a3.nA_le
      exact .inl ⟨a3, by omega, .inr ⟨hx, a3⟩⟩
    · have := g.pn_lt hn
      refine .inr ⟨2 + n * 4, a3, by omega, by omega, fun e => ?_⟩
      exact (gone_fwd a3).2.2 (g.live_ob e)
/-- A live object's word, turned. -/
def twd (s : Hp) (x t : Nat) : Int := if 3 ≤ t ∧ t < 3 + hp (hdW s.l x) then ((fwd s.l (s.l.getD (x + t) 0).toNat : Nat) : Int) else s.l.getD (x + t) 0
/-- The first k places of a list are turned, the others as they were. -/
structure TurnI (s : Hp) (i : Nat) (T0 T : List Int) (k : Nat) : Prop where
  len : T.length = s.l.length
  far : ∀ j, j < s.l.length → ¬ (s.base i ≤ j ∧ j < s.top i) → T.getD j 0 = T0.getD j 0
  done : ∀ n, n < k → n < (s.pl i).length → Live s ((s.pl i).getD n 0) → ∀ t, t < nA s.l ((s.pl i).getD n 0) → T.getD ((s.pl i).getD n 0 + t) 0 = twd s ((s.pl i).getD n 0) t
  rest : ∀ n, k ≤ n → n < (s.pl i).length → (∀ t, t < nA s.l ((s.pl i).getD n 0) → Live s ((s.pl i).getD n 0) → T.getD ((s.pl i).getD n 0 + t) 0 = s.l.getD ((s.pl i).getD n 0 + t) 0) ∧ T.getD ((s.pl i).getD n 0) 0 = s.l.getD ((s.pl i).getD n 0) 0
theorem getD_memN {l : List Nat} {j : Nat} (h : j < l.length) : l.getD j 0 ∈ l := by
  rw [List.getD_eq_getElem?_getD, List.getElem?_eq_getElem h]
  exact List.getElem_mem _
theorem Okw.pl_ne {s : Hp} (g : Okw s) {i n m : Nat} (hn : n < (s.pl i).length) (hm : m < (s.pl i).length) (hne : n ≠ m) : (s.pl i).getD n 0 ≠ (s.pl i).getD m 0 := by
  have hr : (s.pl i).Pairwise fun x y => x < y := by
    unfold Hp.pl
    split
    · exact g.rn
    · exact g.rk
  have h := rises_of hr
  intro e
  rcases Nat.lt_or_gt_of_ne hne with h1 | h1
  · have := h n m h1 (by rw [nums_length]; exact hm)
    rw [nums_getD hn, nums_getD hm] at this
    omega
  · have := h m n h1 (by rw [nums_length]; exact hn)
    rw [nums_getD hn, nums_getD hm] at this
    omega
theorem pl_in {s : Hp} {i x : Nat} (hx : x ∈ s.pl i) : x ∈ s.pn ∨ x ∈ s.pk := by
  unfold Hp.pl at hx
  split at hx
  · exact .inl hx
  · exact .inr hx
theorem TurnI.gone {s : Hp} {i : Nat} {T0 T : List Int} {k : Nat} (h : TurnI s i T0 T k) (hk : k < (s.pl i).length) (hl : ¬ Live s ((s.pl i).getD k 0)) : TurnI s i T0 T (k + 1) := by
  refine ⟨h.len, h.far, fun n hn hnl hL => ?_, fun n hn hnl => h.rest n (by omega) hnl⟩
  by_cases e : n = k
  · subst e; exact absurd hL hl
  · exact h.done n (by omega) hnl hL
section
variable {s : Hp} (g : Okw s) {i : Nat} (hi : i = 0 ∨ i = 1) {T0 T : List Int} {k : Nat}
include g hi
theorem TurnI.obj (h : TurnI s i T0 T k) (hk : k < (s.pl i).length) (hl : Live s ((s.pl i).getD k 0)) : TurnI s i T0 (turnL s T ((s.pl i).getD k 0) (hp (hdW s.l ((s.pl i).getD k 0)))) (k + 1) := by
  have hsp := g.space hi
  have hm := getD_memN hk
  have hob := g.live_ob hl
  have hnA := hob.nA_le
  obtain ⟨p1, p2, p3⟩ := hsp.2.2.2.2.2 _ hm
  have p4 : (s.pl i).getD k 0 + nA s.l ((s.pl i).getD k 0) ≤ s.top i := by
    rcases p3 with e | ⟨_, _, _, _, e⟩
    · exact e.2.1
    · exact absurd hl e
  have hn3 : nA s.l ((s.pl i).getD k 0) = 3 + hp (hdW s.l ((s.pl i).getD k 0)) + hd (hdW s.l ((s.pl i).getD k 0)) := rfl
  have hrest := h.rest k (Nat.le_refl _) hk
  have key : ∀ j, j < s.l.length → (turnL s T ((s.pl i).getD k 0) (hp (hdW s.l ((s.pl i).getD k 0)))).getD j 0 = if (s.pl i).getD k 0 + 3 ≤ j ∧ j < (s.pl i).getD k 0 + 3 + hp (hdW s.l ((s.pl i).getD k 0)) then ((fwd s.l (T.getD ((s.pl i).getD k 0 + (3 + (j - ((s.pl i).getD k 0 + 3)))) 0).toNat : Nat) : Int) else T.getD j 0 := fun j hj => turnL_at (by rw [h.len]; exact hj)
  refine ⟨(layL_length ..).trans h.len, fun j hj hf => ?_, fun n hn hnl hL t ht => ?_, fun n hn hnl => ?_⟩
  · rw [key j hj, if_neg (by omega)]; exact h.far j hj hf
  · have hm' := getD_memN hnl
    have hob' := (g.live_ob hL).nA_le
    by_cases e : n = k
    · subst e
      rw [key _ (by omega)]
      unfold twd
      by_cases e2 : 3 ≤ t ∧ t < 3 + hp (hdW s.l ((s.pl i).getD n 0))
      · rw [if_pos (by omega), if_pos e2, show 3 + ((s.pl i).getD n 0 + t - ((s.pl i).getD n 0 + 3)) = t from by omega, hrest.1 t ht hL]
      · rw [if_neg (by omega), if_neg e2]; exact hrest.1 t ht hL
    · have hne := g.pl_ne hnl hk e
      have ha := (g.live_apart hL (pl_in hm) hne ht).2 hob
      rw [key _ (by omega), if_neg]
      · exact h.done n (by omega) hnl hL t ht
      · intro e3
        exact ha ((s.pl i).getD n 0 + t - (s.pl i).getD k 0) (by omega) (by omega)
  · have hm' := getD_memN hnl
    have hne := g.pl_ne hnl hk (by omega)
    have hx' := hsp.2.2.2.2.2 _ hm'
    obtain ⟨r1, r2⟩ := h.rest n (by omega) hnl
    refine ⟨fun t ht hL => ?_, ?_⟩
    · have hob' := (g.live_ob hL).nA_le
      have ha := (g.live_apart hL (pl_in hm) hne ht).2 hob
      rw [key _ (by omega), if_neg]
      · exact r1 t ht hL
      · intro e3
        exact ha ((s.pl i).getD n 0 + t - (s.pl i).getD k 0) (by omega) (by omega)
    · rw [key _ (by omega), if_neg]
      · exact r2
      · intro e3
        exact (g.live_apart hl (pl_in hm') (fun e => hne e.symm) (t := (s.pl i).getD n 0 - (s.pl i).getD k 0) (by omega)).1 (by omega)
end

section
variable {w : World} {H P b : Nat} {v0 v1 v2 v3 : Value} {s : Hp}
/-- What turned tells. -/
structure TurnAll (s : Hp) (T : List Int) : Prop where
  len : T.length = s.l.length
  word : ∀ x, Live s x → ∀ t, t < nA s.l x → T.getD (x + t) 0 = twd s x t
set_option maxRecDepth 100000 in
set_option maxHeartbeats 4000000 in
theorem turnedH (h : HeapIn w H P b v0 v1 v2 v3 s) (g : Okw s) :
    Calls Tryz.prog 63 #[.pointer (some ⟨H, 0, none⟩)] w fun e w' => ∃ P2 b2 T, e = .returned (.pointer (some ⟨P2, 0, none⟩)) ∧ ArenaAt 146 w' P2 b2 T ∧ TurnAll s T ∧ w.heap.size ≤ P2 ∧ w.heap.size ≤ b2 ∧ Below w.heap.size w w' := by
  have c0 : w.cell? ⟨H, 0, none⟩ = some (.pointer (some ⟨P, 0, none⟩)) := h.blk.cell 0
  have hl := g.len
  have hz0 := g.z0
  have hz1 := g.z1
  have ML := len_any w h.ar
  have MN := fun x => new_any s.l.length x (by omega) (by omega)
  obtain ⟨n, hn⟩ : ∃ n, s.l.length = n := ⟨_, rfl⟩
  rw [hn] at ML MN
  have Hn := Lib.hid hn
  clear hn
  go_enter Tryz.func63, Tryz.ntmps63
  go_wp2_with fail
  refine ML.mono ?_
  rintro e x ⟨rfl, hb⟩
  subst hb
  have hA0 := h.ar
  go_wp2_with fail
  refine (MN _).mono ?_
  rintro e x1 ⟨P2, b2, rfl, hA, hP2, hb2, hB⟩
  have h1 := h.on hB
  have hll : (List.replicate n (0 : Int)).length = n := List.length_replicate
  generalize List.replicate n (0 : Int) = T00 at *
  have c1 : x1.cell? ⟨H, 1, none⟩ = some (.int .i64 (s.base 0)) := h1.blk.cell 1
  have c2 : x1.cell? ⟨H, 2, none⟩ = some (.int .i64 s.z) := h1.blk.cell 2
  have c3 : x1.cell? ⟨H, 3, none⟩ = some (.int .i64 (s.top 0)) := h1.blk.cell 3
  have c4 : x1.cell? ⟨H, 4, none⟩ = some (.int .i64 (s.base 1)) := h1.blk.cell 4
  have c5 : x1.cell? ⟨H, 5, none⟩ = some (.int .i64 s.z) := h1.blk.cell 5
  have c6 : x1.cell? ⟨H, 6, none⟩ = some (.int .i64 (s.top 1)) := h1.blk.cell 6
  clear ML MN h1
  have hnf : ¬ Foot H P b v0 v1 v2 v3 b2 := fun hk => by have := h.lt hk; omega
  have HD : ∀ T : List Int, Hid (∀ i : Nat, (i : Int) < 0 → ∀ y ∈ s.pl i, Live s y → ∀ t, t < nA s.l y → T.getD (y + t) 0 = twd s y t) := fun T => Lib.hid fun i hi => by omega
  go_wp2_with fail
  go_loopw [25] (fun i wr => ∃ (jj : Int) (T : List Int), (jj = 0 ∨ jj = 1 ∨ jj = 2) ∧ i = .int .i64 jj ∧ ArenaAt 146 wr P2 b2 T ∧ T.length = n ∧ Hid (∀ i : Nat, (i : Int) < jj → ∀ y ∈ s.pl i, Live s y → ∀ t, t < nA s.l y → T.getD (y + t) 0 = twd s y t) ∧ Below w.heap.size w wr) (fun i _ => 2 - (intOf i).toNat)
  case atStart => exact ⟨0, T00, .inl rfl, rfl, hA, hll, HD T00, hB⟩
  case round =>
    clear HD hA hll hB c1 c2 c3 c4 c5 c6 c0
    obtain ⟨jj, T, hjj, rfl, hA, hTl, hD, hB⟩ := hrel
    rcases hjj with rfl | rfl | rfl
    · have hsp := g.space (i := 0) (.inl rfl)
      obtain ⟨p1, p2, p3, p4, p5, p6⟩ := hsp
      have P6 := Lib.hid p6
      clear p6
      obtain ⟨va, vc, ev, hrd⟩ := h.r0.reads.slice
      have HRD := Lib.hid hrd
      clear hrd
      subst ev
      have kq : BlkIs (wr.alloc (.cells #[.int .i64 (s.base 0), .int .i64 s.z, .int .i64 (s.top 0)] 76)) wr.heap.size _ _ := BlkIs.new wr #[.int .i64 (s.base 0), .int .i64 s.z, .int .i64 (s.top 0)] 76
      have hbq := (Below.refl _ wr).alloc (Nat.le_refl _) (.cells #[.int .i64 (s.base 0), .int .i64 s.z, .int .i64 (s.top 0)] 76)
      have hAq := hA.below hbq hA.lt.1 hA.lt.2
      have hBq := hB.trans (hbq.mono hB.size)
      have hwq : w.heap.size ≤ wr.heap.size := hB.size
      have hqb : ¬ wr.heap.size = b2 := by have := hA.lt; omega
      have ix : ∀ y : World, (Instr.index 77 (.agg #[.int .i64 (s.base 0), .int .i64 s.z, .int .i64 (s.top 0), .int .i64 (s.base 1), .int .i64 s.z, .int .i64 (s.top 1)]) (.int .i64 0)).run Tryz.prog y = .ok (.agg #[.int .i64 (s.base 0), .int .i64 s.z, .int .i64 (s.top 0)]) y := fun _ => by kernel_rfl
      have hwq2 : wr.heap.size < (wr.alloc (.cells #[.int .i64 (s.base 0), .int .i64 s.z, .int .i64 (s.top 0)] 76)).heap.size := by simp
      have hPq : ¬ wr.heap.size = P2 := by have := hA.lt; omega
      go_wp2_with fail
      obtain ⟨q, hq⟩ : ∃ q, wr.heap.size = q := ⟨_, rfl⟩
      rw [hq] at kq hwq hqb hwq2 hPq
      generalize hWW : wr.alloc (.cells #[.int .i64 (s.base 0), .int .i64 s.z, .int .i64 (s.top 0)] 76) = y at *
      obtain ⟨⟨e0, e1, e2⟩, _⟩ := blk3 kq
      clear hWW hbq
      rw [hq]
      have Hq := Lib.hid hq
      clear hq
      obtain ⟨y, rfl⟩ : ∃ z : World, z = y := ⟨_, rfl⟩
      go_loopw [7] (fun i wr2 => ∃ (a : Nat) (Ta : List Int), s.base 0 ≤ a ∧ a ≤ s.top 0 ∧ i = .int .i64 a ∧ ArenaAt 146 wr2 P2 b2 Ta ∧ Ta.length = n ∧ Hid (∀ j, s.base 0 ≤ j → j < a → Ta.getD j 0 = s.l.getD j 0) ∧ Hid (∀ j, j < n → ¬ (s.base 0 ≤ j ∧ j < s.top 0) → Ta.getD j 0 = T.getD j 0) ∧ BlkIs wr2 q #[.int .i64 (s.base 0), .int .i64 s.z, .int .i64 (s.top 0)] 76 ∧ Below w.heap.size w wr2) (fun i _ => s.top 0 - (intOf i).toNat)
      case atStart => exact ⟨s.base 0, T, Nat.le_refl _, p2, rfl, hAq, hTl, Lib.hid fun j h1 h2 => by omega, Lib.hid fun j h1 h2 => rfl, kq, hBq⟩
      case round =>
        clear kq hAq hBq e0 e1 e2
        obtain ⟨a, Ta, ha1, ha2, rfl, hAa, hTa, hC1, hC2, kq, hBa⟩ := hrel
        obtain ⟨⟨e0, e1, e2⟩, _⟩ := blk3 kq
        have hh := h.on hBa
        have c0 : wr.cell? ⟨H, 0, none⟩ = some (.pointer (some ⟨P, 0, none⟩)) := hh.blk.cell 0
        have hln : s.l.length = n := Hn.out
        by_cases hlt : a < s.top 0
        · have d0 : decide ((a : Int) < (s.top 0 : Int)) = true := decide_eq_true (by omega)
          have M1 := load_there a wr hh.ar (by omega)
          have M2 := store_there a (s.l.getD a 0) wr hAa (by omega) (getD_fits hh.ar.fits a)
          have hset : ∀ j, j < n → (Ta.set a (s.l.getD a 0)).getD j 0 = if j = a then s.l.getD a 0 else Ta.getD j 0 := fun j hj => set_at' (by omega)
          have hsl : (Ta.set a (s.l.getD a 0)).length = n := by rw [List.length_set]; exact hTa
          have hD1 : Hid (∀ j, s.base 0 ≤ j → j < a + 1 → (Ta.set a (s.l.getD a 0)).getD j 0 = s.l.getD j 0) := Lib.hid fun j h1 h2 => by
            rw [hset j (by omega)]
            by_cases e : j = a
            · rw [if_pos e, e]
            · rw [if_neg e]; exact hC1.out j h1 (by omega)
          have hD2 : Hid (∀ j, j < n → ¬ (s.base 0 ≤ j ∧ j < s.top 0) → (Ta.set a (s.l.getD a 0)).getD j 0 = T.getD j 0) := Lib.hid fun j h1 h2 => by
            rw [hset j h1, if_neg (by omega)]; exact hC2.out j h1 h2
          generalize Ta.set a (s.l.getD a 0) = Tb at *
          generalize s.l.getD a 0 = v at *
          clear hset hln hC1 hC2 hh
          go_wp2_with fail
          refine M1.mono ?_
          rintro e y2 ⟨rfl, rfl⟩
          go_wp2_with fail
          refine M2.mono ?_
          rintro e y3 ⟨rfl, hA3, hc3⟩
          have hB3 := hBa.trans (hc3.below (n := w.heap.size) (fun k e => by omega) hBa.size)
          have kq3 := kq.chg hc3 hqb
          clear hc3 M1 M2 hAa kq hBa e0 e1 e2 c0
          go_wp2
          go_roundw
          case rel => exact ⟨a + 1, Tb, by omega, by omega, by go_num, hA3, hsl, hD1, hD2, kq3, hB3⟩
          case measure => simp [intOf]; omega
        · obtain rfl : a = s.top 0 := by omega
          have d0 : decide ((s.top 0 : Int) < (s.top 0 : Int)) = false := decide_eq_false (by omega)
          have hTI : TurnI s 0 T Ta 0 := ⟨by rw [hTa, hln], fun j hj hf => hC2.out j (by omega) hf, fun m hm => by omega, fun m _ hm => by
            obtain ⟨x1, x2, x3⟩ := P6.out _ (getD_memN hm)
            refine ⟨fun t ht hL => ?_, hC1.out _ x1 x2⟩
            have x4 : (s.pl 0).getD m 0 + nA s.l ((s.pl 0).getD m 0) ≤ s.top 0 := x3.elim (fun e => e.2.1) fun ⟨_, _, _, _, e⟩ => absurd hL e
            exact hC1.out _ (by omega) (by omega)⟩
          have HTI := Lib.hid hTI
          clear hTI hC1 hC2 d0
          have c9 : wr.cell? ⟨H, 7, none⟩ = some (.slice va (s.pl 0).length vc) := by
            have := hh.blk.cell 7
            rw [nums_length] at this
            exact this
          obtain ⟨wr, rfl⟩ : ∃ z : World, z = wr := ⟨_, rfl⟩
          go_wp2
          go_loopw [57] (fun i wr3 => ∃ (m : Nat) (Tb : List Int), m ≤ (s.pl 0).length ∧ i = .int .i64 m ∧ ArenaAt 146 wr3 P2 b2 Tb ∧ Hid (TurnI s 0 T Tb m) ∧ Below w.heap.size w wr3) (fun i _ => (s.pl 0).length - (intOf i).toNat)
          case atStart => exact ⟨0, Ta, Nat.zero_le _, rfl, hAa, HTI, hBa⟩
          case round =>
            clear HTI hAa hBa hTa c9 c0 e0 e1 e2 kq hh
            obtain ⟨m, Tb, hm, rfl, hA4, hT, hB4⟩ := hrel
            have hh := h.on hB4
            by_cases hmt : m < (s.pl 0).length
            · have hx := getD_memN hmt
              obtain ⟨g1, eg, hgl, hgc, hcell⟩ := HRD.out (by rw [nums_length]; omega)
              have c8 := (hB4.cell (p := ⟨g1, m, none⟩) hgl).trans (hcell m (by rw [nums_length]; exact hmt))
              rw [nums_getD hmt] at c8
              subst eg
              have b0 : (0 : Int) ≤ (m : Int) := by omega
              have b1 : (m : Int) < ((s.pl 0).length : Int) := by omega
              obtain ⟨x1, x2, x3⟩ := P6.out _ hx
              have hTl4 := hT.out.len
              obtain ⟨r1, r2⟩ := hT.out.rest m (Nat.le_refl _) hmt
              have M4 : ∃ T2, TurnI s 0 T T2 (m + 1) ∧ Calls Tryz.prog 98 #[.pointer (some ⟨H, 0, none⟩), .pointer (some ⟨P2, 0, none⟩), .int .i64 ((s.pl 0).getD m 0 : Nat)] wr fun e w' => e = .returned (.tuple #[]) ∧ ArenaAt 146 w' P2 b2 T2 ∧ Below w.heap.size w w' := by
                rcases x3 with ⟨y1, y2, y3⟩ | ⟨vv, y1, y2, y3, y4⟩
                · have hnn := y1.nA_le
                  have ob := y1.of.same hTl4 r2
                  refine ⟨_, hT.out.obj g (.inl rfl) hmt y3, (turnH_obj hh g hA4 hnf _ ob fun i hi => ?_).mono fun e w' ⟨a1, a2, a3⟩ => ⟨a1, a2, hB4.trans (a3.below (fun k e => by omega) hB4.size)⟩⟩
                  rw [r1 (3 + i) (by unfold nA; omega) y3]
                  rcases g.ptr _ y3 i hi with e | ⟨z, e, hz⟩
                  · rw [e]; exact ⟨.inl rfl, Int.le_refl _⟩
                  · rw [e, Int.toNat_natCast]; exact ⟨.inr hz, by omega⟩
                · exact ⟨Tb, hT.out.gone hmt y4, (turnH_gone hh hA4 _ vv (by rw [hTl4]; omega) (r2.trans y1) y2 y3).mono fun e w' ⟨a1, a2⟩ => ⟨a1, hA4.below a2 hA4.lt.1 hA4.lt.2, hB4.trans (a2.mono hB4.size)⟩⟩
              obtain ⟨T2, hT2, M4⟩ := M4
              have HT2 := Lib.hid hT2
              clear hcell r1 r2 hT2 x1 x2 x3 hx hTl4
              generalize (s.pl 0).getD m 0 = xx at *
              go_wp2_with fail
              refine M4.mono ?_
              rintro e z2 ⟨rfl, hA5, hB5⟩
              go_wp2
              go_roundw
              case rel => exact ⟨m + 1, T2, by omega, by go_num, hA5, HT2, hB5⟩
              case measure => simp [intOf]; omega
            · obtain rfl : m = (s.pl 0).length := by omega
              go_wp2
              go_roundw
              case rel =>
                refine ⟨1, Tb, .inr (.inl rfl), by go_num, hA4, by rw [hT.out.len, hln], Lib.hid fun i hi y hy hL t ht => ?_, hB4⟩
                by_cases ei : i = 0
                · subst ei
                  obtain ⟨k, hk, e⟩ := List.mem_iff_getElem.1 hy
                  have e2 : (s.pl 0).getD k 0 = y := by simp [List.getD, hk, e]
                  have := hT.out.done k hk hk (by rw [e2]; exact hL) t (by rw [e2]; exact ht)
                  rw [e2] at this
                  exact this
                · have e0 : i = 0 ∧ 0 = 1 := by omega
                  obtain ⟨rfl, ei1⟩ := e0
                  have h00 := g.space (i := 0) (.inl rfl)
                  obtain ⟨z1, z2, z3⟩ := h00.2.2.2.2.2 y hy
                  have z4 : y + nA s.l y ≤ s.top 0 := z3.elim (fun e => e.2.1) fun ⟨_, _, _, _, e⟩ => absurd hL e
                  have hbb : s.base 1 = 1 + s.z := rfl
                  have hb0 : s.base 0 = 1 := rfl
                  have hz3 := h00.2.2.1
                  rw [hT.out.far (y + t) (by omega) (by omega)]
                  exact hD.out 0 (by omega) y hy hL t ht
              case measure => simp [intOf]
    · have hsp := g.space (i := 1) (.inr rfl)
      obtain ⟨p1, p2, p3, p4, p5, p6⟩ := hsp
      have P6 := Lib.hid p6
      clear p6
      obtain ⟨va, vc, ev, hrd⟩ := h.r1.reads.slice
      have HRD := Lib.hid hrd
      clear hrd
      subst ev
      have kq : BlkIs (wr.alloc (.cells #[.int .i64 (s.base 1), .int .i64 s.z, .int .i64 (s.top 1)] 76)) wr.heap.size _ _ := BlkIs.new wr #[.int .i64 (s.base 1), .int .i64 s.z, .int .i64 (s.top 1)] 76
      have hbq := (Below.refl _ wr).alloc (Nat.le_refl _) (.cells #[.int .i64 (s.base 1), .int .i64 s.z, .int .i64 (s.top 1)] 76)
      have hAq := hA.below hbq hA.lt.1 hA.lt.2
      have hBq := hB.trans (hbq.mono hB.size)
      have hwq : w.heap.size ≤ wr.heap.size := hB.size
      have hqb : ¬ wr.heap.size = b2 := by have := hA.lt; omega
      have ix : ∀ y : World, (Instr.index 77 (.agg #[.int .i64 (s.base 0), .int .i64 s.z, .int .i64 (s.top 0), .int .i64 (s.base 1), .int .i64 s.z, .int .i64 (s.top 1)]) (.int .i64 1)).run Tryz.prog y = .ok (.agg #[.int .i64 (s.base 1), .int .i64 s.z, .int .i64 (s.top 1)]) y := fun _ => by kernel_rfl
      have hwq2 : wr.heap.size < (wr.alloc (.cells #[.int .i64 (s.base 1), .int .i64 s.z, .int .i64 (s.top 1)] 76)).heap.size := by simp
      have hPq : ¬ wr.heap.size = P2 := by have := hA.lt; omega
      go_wp2_with fail
      obtain ⟨q, hq⟩ : ∃ q, wr.heap.size = q := ⟨_, rfl⟩
      rw [hq] at kq hwq hqb hwq2 hPq
      generalize hWW : wr.alloc (.cells #[.int .i64 (s.base 1), .int .i64 s.z, .int .i64 (s.top 1)] 76) = y at *
      obtain ⟨⟨e0, e1, e2⟩, _⟩ := blk3 kq
      clear hWW hbq
      rw [hq]
      have Hq := Lib.hid hq
      clear hq
      obtain ⟨y, rfl⟩ : ∃ z : World, z = y := ⟨_, rfl⟩
      go_loopw [7] (fun i wr2 => ∃ (a : Nat) (Ta : List Int), s.base 1 ≤ a ∧ a ≤ s.top 1 ∧ i = .int .i64 a ∧ ArenaAt 146 wr2 P2 b2 Ta ∧ Ta.length = n ∧ Hid (∀ j, s.base 1 ≤ j → j < a → Ta.getD j 0 = s.l.getD j 0) ∧ Hid (∀ j, j < n → ¬ (s.base 1 ≤ j ∧ j < s.top 1) → Ta.getD j 0 = T.getD j 0) ∧ BlkIs wr2 q #[.int .i64 (s.base 1), .int .i64 s.z, .int .i64 (s.top 1)] 76 ∧ Below w.heap.size w wr2) (fun i _ => s.top 1 - (intOf i).toNat)
      case atStart => exact ⟨s.base 1, T, Nat.le_refl _, p2, rfl, hAq, hTl, Lib.hid fun j h1 h2 => by omega, Lib.hid fun j h1 h2 => rfl, kq, hBq⟩
      case round =>
        clear kq hAq hBq e0 e1 e2
        obtain ⟨a, Ta, ha1, ha2, rfl, hAa, hTa, hC1, hC2, kq, hBa⟩ := hrel
        obtain ⟨⟨e0, e1, e2⟩, _⟩ := blk3 kq
        have hh := h.on hBa
        have c0 : wr.cell? ⟨H, 0, none⟩ = some (.pointer (some ⟨P, 0, none⟩)) := hh.blk.cell 0
        have hln : s.l.length = n := Hn.out
        by_cases hlt : a < s.top 1
        · have d0 : decide ((a : Int) < (s.top 1 : Int)) = true := decide_eq_true (by omega)
          have M1 := load_there a wr hh.ar (by omega)
          have M2 := store_there a (s.l.getD a 0) wr hAa (by omega) (getD_fits hh.ar.fits a)
          have hset : ∀ j, j < n → (Ta.set a (s.l.getD a 0)).getD j 0 = if j = a then s.l.getD a 0 else Ta.getD j 0 := fun j hj => set_at' (by omega)
          have hsl : (Ta.set a (s.l.getD a 0)).length = n := by rw [List.length_set]; exact hTa
          have hD1 : Hid (∀ j, s.base 1 ≤ j → j < a + 1 → (Ta.set a (s.l.getD a 0)).getD j 0 = s.l.getD j 0) := Lib.hid fun j h1 h2 => by
            rw [hset j (by omega)]
            by_cases e : j = a
            · rw [if_pos e, e]
            · rw [if_neg e]; exact hC1.out j h1 (by omega)
          have hD2 : Hid (∀ j, j < n → ¬ (s.base 1 ≤ j ∧ j < s.top 1) → (Ta.set a (s.l.getD a 0)).getD j 0 = T.getD j 0) := Lib.hid fun j h1 h2 => by
            rw [hset j h1, if_neg (by omega)]; exact hC2.out j h1 h2
          generalize Ta.set a (s.l.getD a 0) = Tb at *
          generalize s.l.getD a 0 = v at *
          clear hset hln hC1 hC2 hh
          go_wp2_with fail
          refine M1.mono ?_
          rintro e y2 ⟨rfl, rfl⟩
          go_wp2_with fail
          refine M2.mono ?_
          rintro e y3 ⟨rfl, hA3, hc3⟩
          have hB3 := hBa.trans (hc3.below (n := w.heap.size) (fun k e => by omega) hBa.size)
          have kq3 := kq.chg hc3 hqb
          clear hc3 M1 M2 hAa kq hBa e0 e1 e2 c0
          go_wp2
          go_roundw
          case rel => exact ⟨a + 1, Tb, by omega, by omega, by go_num, hA3, hsl, hD1, hD2, kq3, hB3⟩
          case measure => simp [intOf]; omega
        · obtain rfl : a = s.top 1 := by omega
          have d0 : decide ((s.top 1 : Int) < (s.top 1 : Int)) = false := decide_eq_false (by omega)
          have hTI : TurnI s 1 T Ta 0 := ⟨by rw [hTa, hln], fun j hj hf => hC2.out j (by omega) hf, fun m hm => by omega, fun m _ hm => by
            obtain ⟨x1, x2, x3⟩ := P6.out _ (getD_memN hm)
            refine ⟨fun t ht hL => ?_, hC1.out _ x1 x2⟩
            have x4 : (s.pl 1).getD m 0 + nA s.l ((s.pl 1).getD m 0) ≤ s.top 1 := x3.elim (fun e => e.2.1) fun ⟨_, _, _, _, e⟩ => absurd hL e
            exact hC1.out _ (by omega) (by omega)⟩
          have HTI := Lib.hid hTI
          clear hTI hC1 hC2 d0
          have c9 : wr.cell? ⟨H, 8, none⟩ = some (.slice va (s.pl 1).length vc) := by
            have := hh.blk.cell 8
            rw [nums_length] at this
            exact this
          obtain ⟨wr, rfl⟩ : ∃ z : World, z = wr := ⟨_, rfl⟩
          go_wp2
          go_loopw [57] (fun i wr3 => ∃ (m : Nat) (Tb : List Int), m ≤ (s.pl 1).length ∧ i = .int .i64 m ∧ ArenaAt 146 wr3 P2 b2 Tb ∧ Hid (TurnI s 1 T Tb m) ∧ Below w.heap.size w wr3) (fun i _ => (s.pl 1).length - (intOf i).toNat)
          case atStart => exact ⟨0, Ta, Nat.zero_le _, rfl, hAa, HTI, hBa⟩
          case round =>
            clear HTI hAa hBa hTa c9 c0 e0 e1 e2 kq hh
            obtain ⟨m, Tb, hm, rfl, hA4, hT, hB4⟩ := hrel
            have hh := h.on hB4
            by_cases hmt : m < (s.pl 1).length
            · have hx := getD_memN hmt
              obtain ⟨g1, eg, hgl, hgc, hcell⟩ := HRD.out (by rw [nums_length]; omega)
              have c8 := (hB4.cell (p := ⟨g1, m, none⟩) hgl).trans (hcell m (by rw [nums_length]; exact hmt))
              rw [nums_getD hmt] at c8
              subst eg
              have b0 : (0 : Int) ≤ (m : Int) := by omega
              have b1 : (m : Int) < ((s.pl 1).length : Int) := by omega
              obtain ⟨x1, x2, x3⟩ := P6.out _ hx
              have hTl4 := hT.out.len
              obtain ⟨r1, r2⟩ := hT.out.rest m (Nat.le_refl _) hmt
              have M4 : ∃ T2, TurnI s 1 T T2 (m + 1) ∧ Calls Tryz.prog 98 #[.pointer (some ⟨H, 0, none⟩), .pointer (some ⟨P2, 0, none⟩), .int .i64 ((s.pl 1).getD m 0 : Nat)] wr fun e w' => e = .returned (.tuple #[]) ∧ ArenaAt 146 w' P2 b2 T2 ∧ Below w.heap.size w w' := by
                rcases x3 with ⟨y1, y2, y3⟩ | ⟨vv, y1, y2, y3, y4⟩
                · have hnn := y1.nA_le
                  have ob := y1.of.same hTl4 r2
                  refine ⟨_, hT.out.obj g (.inr rfl) hmt y3, (turnH_obj hh g hA4 hnf _ ob fun i hi => ?_).mono fun e w' ⟨a1, a2, a3⟩ => ⟨a1, a2, hB4.trans (a3.below (fun k e => by omega) hB4.size)⟩⟩
                  rw [r1 (3 + i) (by unfold nA; omega) y3]
                  rcases g.ptr _ y3 i hi with e | ⟨z, e, hz⟩
                  · rw [e]; exact ⟨.inl rfl, Int.le_refl _⟩
                  · rw [e, Int.toNat_natCast]; exact ⟨.inr hz, by omega⟩
                · exact ⟨Tb, hT.out.gone hmt y4, (turnH_gone hh hA4 _ vv (by rw [hTl4]; omega) (r2.trans y1) y2 y3).mono fun e w' ⟨a1, a2⟩ => ⟨a1, hA4.below a2 hA4.lt.1 hA4.lt.2, hB4.trans (a2.mono hB4.size)⟩⟩
              obtain ⟨T2, hT2, M4⟩ := M4
              have HT2 := Lib.hid hT2
              clear hcell r1 r2 hT2 x1 x2 x3 hx hTl4
              generalize (s.pl 1).getD m 0 = xx at *
              go_wp2_with fail
              refine M4.mono ?_
              rintro e z2 ⟨rfl, hA5, hB5⟩
              go_wp2
              go_roundw
              case rel => exact ⟨m + 1, T2, by omega, by go_num, hA5, HT2, hB5⟩
              case measure => simp [intOf]; omega
            · obtain rfl : m = (s.pl 1).length := by omega
              go_wp2
              go_roundw
              case rel =>
                refine ⟨2, Tb, .inr (.inr rfl), by go_num, hA4, by rw [hT.out.len, hln], Lib.hid fun i hi y hy hL t ht => ?_, hB4⟩
                by_cases ei : i = 1
                · subst ei
                  obtain ⟨k, hk, e⟩ := List.mem_iff_getElem.1 hy
                  have e2 : (s.pl 1).getD k 0 = y := by simp [List.getD, hk, e]
                  have := hT.out.done k hk hk (by rw [e2]; exact hL) t (by rw [e2]; exact ht)
                  rw [e2] at this
                  exact this
                · have e0 : i = 0 ∧ 1 = 1 := by omega
                  obtain ⟨rfl, ei1⟩ := e0
                  have h00 := g.space (i := 0) (.inl rfl)
                  obtain ⟨z1, z2, z3⟩ := h00.2.2.2.2.2 y hy
                  have z4 : y + nA s.l y ≤ s.top 0 := z3.elim (fun e => e.2.1) fun ⟨_, _, _, _, e⟩ => absurd hL e
                  have hbb : s.base 1 = 1 + s.z := rfl
                  have hb0 : s.base 0 = 1 := rfl
                  have hz3 := h00.2.2.1
                  rw [hT.out.far (y + t) (by omega) (by omega)]
                  exact hD.out 0 (by omega) y hy hL t ht
              case measure => simp [intOf]
    · go_wp2
      go_ret
      refine ⟨P2, b2, T, rfl, hA, ⟨hTl.trans Hn.out.symm, fun y hy t ht => ?_⟩, hP2, hb2, hB⟩
      have hu := g.u01
      have hmem : ∃ i : Nat, (i : Int) < 2 ∧ y ∈ s.pl i := by
        rcases hy with e | ⟨e, _⟩
        · exact ⟨s.u, by omega, by unfold Hp.pl; rw [if_pos rfl]; exact e⟩
        · exact ⟨1 - s.u, by omega, by unfold Hp.pl; rw [if_neg (by omega)]; exact e⟩
      obtain ⟨i, hi, hm⟩ := hmem
      exact hD.out i hi y hm hy t ht
end

end Go.Proofs.YtbjmeibcphmgbaaGreat

namespace Go.Proofs.YtbjmeibcphmgbaaGreat
open Go.ChangeShapes Go.WideShapes Go.ChangeAt Go.RowKit

set_option linter.unusedSimpArgs false
set_option linter.unusedVariables false

theorem getD_zeros (n j : Nat) : (List.replicate n (0 : Int)).getD j 0 = 0 := by
  rw [List.getD_eq_getElem?_getD, List.getElem?_replicate]
  split <;> rfl
theorem Ok.newOk {z : Nat} (h0 : 16 ≤ z) (h1 : z ≤ 16384) : Ok (Hp.new z) := by
  have hnl : ∀ x, ¬ Live (Hp.new z) x := fun x hx => hx.elim (fun e => by simp [Hp.new] at e) fun e => by simp [Hp.new] at e
  have hbk : (Hp.new z).bk = 1 + z := rfl
  have hbn : (Hp.new z).bn = 1 := rfl
  refine ⟨⟨.inl rfl, h0, h1, by simp [Hp.new], getD_zeros _ _, Nat.le_refl _, Nat.le_add_right _ _, ?_, rfl, rfl, fun x hx => ?_, fun x hx => ?_, List.Pairwise.nil, List.Pairwise.nil, .inl rfl, fun x hx => ?_, fun _ => ⟨rfl, rfl⟩, by show 0 ≤ 1099511627776; omega, fun x hx => absurd hx (hnl x), fun x hx => absurd hx (hnl x), fun e => ?_, fun e => ?_, fun a ha => ?_, fun x hx => ?_, fun a ha => ?_, Nat.le_refl _, Nat.le_refl _⟩, fun x hx => ?_⟩
  · show 1 + 0 ≤ 1 + z; omega
  all_goals first | (simp [Hp.new] at hx; done) | (simp [Hp.new] at e; done) | (simp [Hp.new] at ha; done)

theorem Ok.lay_key {s : Hp} (h : Ok s) {p d : Nat} {wk fn : Bool} (o1 : shB p d wk fn = true) (o2 : p ≤ 8) (o3 : d ≤ 8) (hr : Cls.rd (3 + p + d) ≤ s.room) {j : Nat} (hj : j < s.l.length) : (s.lay p d wk fn).l.getD j 0 = if j = s.tn + 2 then ((s.se + 1 : Nat) : Int) else if j = s.tn then ((headN p d wk fn false : Nat) : Int) else if s.tn ≤ j ∧ j < s.tn + (3 + p + d) then 0 else s.l.getD j 0 := by
  have := madeL_at (l := s.l) (a := s.tn) (p := p) (d := d) (wk := wk) (fn := fn) (serial := s.se + 1) hj
  exact this
theorem Ok.lay_place {s : Hp} (h : Ok s) {p d : Nat} {wk fn : Bool} (o1 : shB p d wk fn = true) (o2 : p ≤ 8) (o3 : d ≤ 8) (hr : Cls.rd (3 + p + d) ≤ s.room) : s.bn ≤ s.tn ∧ s.tn + Cls.rd (3 + p + d) + s.ow ≤ s.bn + s.z ∧ s.bn + s.z ≤ s.l.length ∧ 3 + p + d ≤ Cls.rd (3 + p + d) := by
  have h1 := h.t0
  have h2 := h.room
  have h3 := h.bases
  have h4 := h.len
  have h5 : 3 + p + d ≤ Cls.rd (3 + p + d) := Cls.rd_ge (by omega)
  unfold Hp.room at hr
  exact ⟨h1, by omega, by omega, h5⟩
theorem Ok.lay_len {s : Hp} (h : Ok s) {p d : Nat} {wk fn : Bool} (o1 : shB p d wk fn = true) (o2 : p ≤ 8) (o3 : d ≤ 8) (hr : Cls.rd (3 + p + d) ≤ s.room) : (s.lay p d wk fn).l.length = s.l.length := madeL_length ..
section
variable {s : Hp} (h : Ok s) {p d : Nat} {wk fn : Bool} (o1 : shB p d wk fn = true) (o2 : p ≤ 8) (o3 : d ≤ 8) (hr : Cls.rd (3 + p + d) ≤ s.room)
include h o1 o2 o3 hr
theorem Ok.lay_old {x t : Nat} (hx : Live s x) (ht : t < nA s.l x) : (s.lay p d wk fn).l.getD (x + t) 0 = s.l.getD (x + t) 0 := by
  have hl := h.lay_place o1 o2 o3 hr
  have hb := h.bases
  have ho := h.live_ob hx
  have hn := ho.nA_le
  have hk := h.k1
  have hxr : x + nA s.l x ≤ s.tn ∨ (s.bk ≤ x ∧ x + nA s.l x ≤ s.bk + s.z) := by
    rcases hx with e | ⟨e, _⟩
    · have := h.inn x e; left; omega
    · obtain ⟨a1, a2, a3⟩ := h.ink x e
      right
      rcases a3 with ⟨_, a3⟩ | ⟨n, _, a3⟩
      · omega
      · exact absurd ho (gone_fwd a3).2.2
  have h8 := hl.2.2.2
  rw [h.lay_key o1 o2 o3 hr (by omega), if_neg (by omega), if_neg (by omega), if_neg (by omega)]
theorem Ok.lay_head {x : Nat} (hx : x ∈ s.pn ∨ x ∈ s.pk) : (s.lay p d wk fn).l.getD x 0 = s.l.getD x 0 := by
  have hl := h.lay_place o1 o2 o3 hr
  have hb := h.bases
  have hk := h.k1
  have h8 := hl.2.2.2
  have hxr : x < s.tn ∨ (s.bk ≤ x ∧ x < s.bk + s.z) := by
    rcases hx with e | e
    · have := (h.pn_lt e).2.1; left; omega
    · obtain ⟨a1, a2, a3⟩ := h.ink x e
      right; omega
  have hxl : x < s.l.length := hx.elim (fun e => (h.pn_lt e).2.2) fun e => (h.pk_lt e).2
  rw [h.lay_key o1 o2 o3 hr hxl, if_neg (by omega), if_neg (by omega), if_neg (by omega)]
theorem Ok.lay_new : ObjIs (s.lay p d wk fn).l s.tn p d wk fn false := by
  have hl := h.lay_place o1 o2 o3 hr
  exact madeL_obj (s.se + 1) o1 o2 o3 (by omega)
theorem Ok.lay_live {x : Nat} : Live (s.lay p d wk fn) x ↔ x = s.tn ∨ Live s x := by
  have hpn : (s.lay p d wk fn).pn = s.pn ++ [s.tn] := rfl
  have hpk : (s.lay p d wk fn).pk = s.pk := rfl
  unfold Live
  rw [hpn, hpk, List.mem_append, List.mem_singleton]
  have hob : ∀ y, y ∈ s.pk → (isOb (s.lay p d wk fn).l y ↔ isOb s.l y) := fun y hy => isOb_congr (h.lay_len o1 o2 o3 hr) (h.lay_head o1 o2 o3 hr (.inr hy))
  constructor
  · rintro ((e | e) | ⟨e, e2⟩)
    · exact .inr (.inl e)
    · exact .inl e
    · exact .inr (.inr ⟨e, (hob x e).1 e2⟩)
  · rintro (e | e | ⟨e, e2⟩)
    · exact .inl (.inr e)
    · exact .inl (.inl e)
    · exact .inr ⟨e, (hob x e).2 e2⟩
theorem Ok.lay_fwd {x : Nat} (hx : x ∈ s.pn ∨ x ∈ s.pk) : fwd (s.lay p d wk fn).l x = fwd s.l x := fwd_congr (h.lay_head o1 o2 o3 hr hx)
theorem Ok.lay (hse : s.se < 1099511627776) : Ok (s.lay p d wk fn) := by
  have hl := h.lay_place o1 o2 o3 hr
  have h8 := hl.2.2.2
  have hlen := h.lay_len o1 o2 o3 hr
  have hnew := h.lay_new o1 o2 o3 hr
  have hb := h.bases
  have hpn : (s.lay p d wk fn).pn = s.pn ++ [s.tn] := rfl
  have hmem : ∀ x, x ∈ s.pn ++ [s.tn] ↔ x ∈ s.pn ∨ x = s.tn := fun x => by rw [List.mem_append, List.mem_singleton]
  have hhead := fun x hx => h.lay_head (x := x) o1 o2 o3 hr hx
  have hszT : szA (s.lay p d wk fn).l s.tn = Cls.rd (3 + p + d) := by unfold szA; rw [nA_obj hnew]
  have hsz : ∀ x ∈ s.pn, szA (s.lay p d wk fn).l x = szA s.l x := fun x hx => szA_congr (hhead x (.inl hx))
  have hptr : ∀ v, PtrOk s v → PtrOk (s.lay p d wk fn) v := fun v hv => hv.imp id fun ⟨y, e, hy⟩ => ⟨y, e, hy.imp (fun hy => by rw [hpn, hmem]; exact .inl hy) id⟩
  have hfT := hdW_obj hnew
  have hzero : ∀ i, i < p → (s.lay p d wk fn).l.getD (s.tn + (3 + i)) 0 = 0 := fun i hi => by
    rw [h.lay_key o1 o2 o3 hr (by omega), if_neg (by omega), if_neg (by omega), if_pos (by omega)]
  have hin : ∀ x, Live s x → x ∈ s.pn ∨ x ∈ s.pk := fun x hx => hx.imp id fun e => e.1
  have hwkm : ∀ a ∈ s.wk, a ∈ (s.lay p d wk fn).wk := fun a ha => by
    show a ∈ (if wk then s.wk ++ [s.tn] else s.wk)
    split
    · exact List.mem_append_left _ ha
    · exact ha
  have hwk : ∀ a ∈ (s.lay p d wk fn).wk, a ∈ s.wk ∨ (a = s.tn ∧ wk = true) := fun a ha => by
    have ha' : a ∈ (if wk then s.wk ++ [s.tn] else s.wk) := ha
    by_cases e : wk = true
    · rw [if_pos e, List.mem_append, List.mem_singleton] at ha'
      exact ha'.imp id fun e' => ⟨e', e⟩
    · rw [if_neg e] at ha'; exact .inl ha'
  have hwall : ∀ x, Live (s.lay p d wk fn) x → hw (hdW (s.lay p d wk fn).l x) = true → ∃ a ∈ (s.lay p d wk fn).wk, fwd (s.lay p d wk fn).l a = x := fun x hx hwx => by
    rcases (h.lay_live o1 o2 o3 hr).1 hx with e | e
    · subst e
      rw [hfT.2.2.2.1] at hwx
      refine ⟨s.tn, ?_, (show isOb _ _ from ⟨_, _, _, _, _, hnew⟩).fwd⟩
      show s.tn ∈ (if wk then s.wk ++ [s.tn] else s.wk)
      rw [if_pos hwx]
      exact List.mem_append_right _ (by simp)
    · rw [hdW_congr (hhead x (hin x e))] at hwx
      obtain ⟨a, ha, ea⟩ := h.wkAll x e hwx
      exact ⟨a, hwkm a ha, by rw [h.lay_fwd o1 o2 o3 hr (h.wks a ha).1]; exact ea⟩
  refine ⟨⟨h.u01, h.z0, h.z1, by rw [hlen]; exact h.len, ?_, h.k0, h.k1, ?_, ?_, ?_, fun x hx => ?_, fun x hx => ?_, ?_, ?_, ?_, fun x hx => ?_, h.stop, by show s.se + 1 ≤ _; omega, fun x hx => ?_, fun x hx i hi => ?_, fun hm x hx hlt hwx i hi => ?_, fun e => ?_, fun a ha => ?_, fun x hx hwx => hwall x (.inl hx) hwx, fun a ha => ?_, ?_, ?_⟩, fun x hx ho hwx => hwall x (.inr ⟨hx, ho⟩) hwx⟩
  · rw [h.lay_key o1 o2 o3 hr (by omega), if_neg (by omega), if_neg (by omega), if_neg (by omega)]; exact h.zero
  · show s.tn + Cls.rd (3 + p + d) + s.ow ≤ s.bn + s.z; omega
  · show s.tn + Cls.rd (3 + p + d) = s.bn + ((s.pn ++ [s.tn]).map _).sum
    rw [List.map_append, List.sum_append, sum_congr hsz, List.map_singleton, List.sum_singleton, hszT]
    have := h.sum; omega
  · rw [show (s.lay p d wk fn).ow = s.ow from rfl, h.owe]
    refine sum_congr fun x hx => ?_
    unfold ows
    rw [hdW_congr (hhead x (.inr hx)), szA_congr (hhead x (.inr hx))]
  · rw [hpn, hmem] at hx
    show s.bn ≤ x ∧ _ ∧ x + _ ≤ s.tn + Cls.rd (3 + p + d)
    rcases hx with hx | rfl
    · obtain ⟨a1, a2, a3⟩ := h.inn x hx
      exact ⟨a1, (isOb_congr hlen (hhead x (.inl hx))).2 a2, by rw [hsz x hx]; omega⟩
    · exact ⟨hl.1, ⟨_, _, _, _, _, hnew⟩, by rw [hszT]; omega⟩
  · obtain ⟨a1, a2, a3⟩ := h.ink x hx
    have e0 := hhead x (.inr hx)
    exact ⟨a1, a2, a3.imp (fun ⟨b1, b2⟩ => ⟨(isOb_congr hlen e0).2 b1, by rw [szA_congr e0]; exact b2⟩) fun ⟨n, b1, b2⟩ => ⟨n, by rw [hpn, hmem]; exact .inl b1, e0.trans b2⟩⟩
  · rw [hpn, List.pairwise_append]
    refine ⟨pairwise_congr h.srn fun x hx y hy e => by rw [hsz x hx]; exact e, List.pairwise_singleton _ _, fun x hx y hy => ?_⟩
    rw [List.mem_singleton] at hy
    subst hy
    rw [hsz x hx]
    exact (h.inn x hx).2.2
  · refine pairwise_congr h.srk fun x hx y hy e => ⟨e.1, fun hob => ?_⟩
    have e0 := hhead x (.inr hx)
    rw [szA_congr e0]
    exact e.2 ((isOb_congr hlen e0).1 hob)
  · right
    rw [hpn, hmem]
    rcases h.fst with e | e
    · exact .inr e.symm
    · exact .inl e
  · rw [hpn, hmem] at hx
    rw [hpn, hmem]
    show _ = s.tn + Cls.rd (3 + p + d) ∨ _
    rcases hx with hx | rfl
    · rw [hsz x hx]
      rcases h.nxt x hx with e | e
      · exact .inr (.inr e)
      · exact .inr (.inl e)
    · rw [hszT]; exact .inl rfl
  · show 1 ≤ _ ∧ _ ≤ ((s.se + 1 : Nat) : Int)
    rcases (h.lay_live o1 o2 o3 hr).1 hx with rfl | e
    · rw [h.lay_key o1 o2 o3 hr (by omega), if_pos rfl]; omega
    · have := (h.live_ob e).nA_le
      rw [h.lay_old o1 o2 o3 hr e (by omega)]
      have := h.ser x e
      omega
  · rcases (h.lay_live o1 o2 o3 hr).1 hx with rfl | e
    · rw [hfT.2.1] at hi
      rw [hzero i hi]; exact .inl rfl
    · have := (h.live_ob e).nA_le
      rw [hdW_congr (hhead x (hin x e))] at hi
      rw [h.lay_old o1 o2 o3 hr e (by unfold nA; omega)]
      exact hptr _ (h.ptr x e i hi)
  · rw [hpn, hmem] at hx
    rcases hx with hx | rfl
    · have := ((h.inn x hx).2.1).nA_le
      rw [hdW_congr (hhead x (.inl hx))] at hi hwx
      rw [h.lay_old o1 o2 o3 hr (.inl hx) (by unfold nA; omega)]
      exact (h.blk hm x hx hlt hwx i hi).imp id fun ⟨y, hy, e⟩ => ⟨y, by rw [hpn, hmem]; exact .inl hy, e⟩
    · rw [hfT.2.1] at hi
      exact .inl (hzero i hi)
  · rw [hpn, hmem]
    show s.sc = s.tn + Cls.rd (3 + p + d) ∨ _
    rcases h.scn e with e | e
    · exact .inr (.inr e)
    · exact .inr (.inl e)
  · rw [hpn, hmem]
    rcases hwk a ha with e | ⟨rfl, e⟩
    · obtain ⟨a1, a2⟩ := h.wks a e
      refine ⟨a1.imp .inl id, ?_⟩
      rw [h.lay_fwd o1 o2 o3 hr a1]
      have : fwd s.l a ∈ s.pn ∨ fwd s.l a ∈ s.pk := by
        rcases a1 with e1 | e1
        · rw [((h.inn a e1).2.1).fwd]; exact .inl e1
        · rcases h.alive e1 with e2 | ⟨_, _, n, hn, _, _, e5⟩
          · rw [e2.fwd]; exact .inr e1
          · rw [e5]; exact .inl hn
      rw [hdW_congr (hhead _ this)]; exact a2
    · refine ⟨.inl (.inr rfl), ?_⟩
      rw [(show isOb (s.lay p d wk fn).l s.tn from ⟨_, _, _, _, _, hnew⟩).fwd, hfT.2.2.2.1]; exact e
  · have ha' : a ∈ (if fn then s.fi ++ [s.tn] else s.fi) := ha
    rw [hpn, hmem]
    by_cases e : fn = true
    · rw [if_pos e, List.mem_append, List.mem_singleton] at ha'
      rcases ha' with e' | e'
      · exact (h.fin a e').imp .inl id
      · exact .inl (.inr e')
    · rw [if_neg e] at ha'; exact (h.fin a ha').imp .inl id
  · show (if wk then s.wk ++ [s.tn] else s.wk).length ≤ s.se + 1
    have := h.wkl
    split <;> simp <;> omega
  · show (if fn then s.fi ++ [s.tn] else s.fi).length ≤ s.se + 1
    have := h.fil
    split <;> simp <;> omega
end

end Go.Proofs.YtbjmeibcphmgbaaGreat

namespace Go.Proofs.YtbjmeibcphmgbaaGreat
open Go.ChangeShapes Go.WideShapes Go.ChangeAt Go.RowKit

set_option linter.unusedSimpArgs false
set_option linter.unusedVariables false

theorem Ok.flip {s : Hp} (h : Ok s) (hm : s.mv = false) : Ok s.flip := by
  obtain ⟨hpk, htk⟩ := h.stop hm
  have hu := h.u01
  have hbn : s.flip.bn = s.bk := rfl
  have hbk : s.flip.bk = s.bn := by
    show s.base (1 - (1 - s.u)) = s.base s.u
    rw [show 1 - (1 - s.u) = s.u from by omega]
  have hlive : ∀ x, Live s.flip x ↔ x ∈ s.pn := fun x => by
    show (x ∈ s.pk ∨ (x ∈ s.pn ∧ isOb s.l x)) ↔ _
    rw [hpk]
    exact ⟨fun e => e.elim (fun e => by simp at e) fun e => e.1, fun e => .inr ⟨e, (h.inn x e).2.1⟩⟩
  have hnpk : ∀ x, ¬ x ∈ s.flip.pn := fun x e => by
    have e' : x ∈ s.pk := e
    rw [hpk] at e'; simp at e'
  have hb := h.bases
  have hsum := h.sum
  have hr := h.room
  have h0 := h.t0
  refine ⟨⟨by show 1 - s.u = 0 ∨ 1 - s.u = 1; omega, h.z0, h.z1, h.len, h.zero, by rw [hbk]; exact h0, by rw [hbk]; show s.tn ≤ s.bn + s.z; omega, ?_, ?_, ?_, fun x hx => absurd hx (hnpk x), fun x hx => ?_, ?_, ?_, .inl (by rw [hbn]; exact htk), fun x hx => absurd hx (hnpk x), fun e => ?_, h.sel, fun x hx => h.ser x (.inl ((hlive x).1 hx)), fun x hx i hi => ?_, fun _ x hx => absurd hx (hnpk x), fun _ => .inl htk.symm, fun a ha => ?_, fun x hx => absurd hx (hnpk x), fun a ha => ?_, h.wkl, h.fil⟩, fun x hx _ hwx => h.wka x hx hwx⟩
  · rw [hbn]; show s.tk + (s.tn - s.bn) ≤ s.bk + s.z; omega
  · rw [hbn]
    show s.tk = s.bk + (s.pk.map _).sum
    rw [hpk]; simp; exact htk
  · show s.tn - s.bn = (s.pn.map (ows s.l)).sum
    rw [sum_congr (f := ows s.l) (g := szA s.l) fun x hx => if_pos (h.inn x hx).2.1.odd]
    omega
  · obtain ⟨a1, a2, a3⟩ := h.inn x hx
    have := szA_pos (l := s.l) (a := x)
    rw [hbk]
    exact ⟨a1, by show x < s.tn; omega, .inl ⟨a2, a3⟩⟩
  · show s.pk.Pairwise _
    rw [hpk]; exact List.Pairwise.nil
  · exact pairwise_congr h.srn fun x hx y hy e => ⟨by have := szA_pos (l := s.l) (a := x); omega, fun _ => e⟩
  · exact absurd e (by simp [Hp.flip])
  · exact (h.ptr x (.inl ((hlive x).1 hx)) i hi).imp id fun ⟨y, e, hy⟩ => ⟨y, e, hy.elim (fun e => .inr e) fun e => .inl e⟩
  · exact ⟨(h.wks a ha).1.elim (fun e => .inr e) fun e => .inl e, (h.wks a ha).2⟩
  · exact (h.fin a ha).elim (fun e => .inr e) fun e => .inl e

/-- What Scan lays is right. -/
theorem Ok.scan {s : Hp} (h : Ok s) (hm : s.mv = true) (hin : s.sc ∈ s.pn) : Ok s.scan := by
  have g := h.movedL (stP s.l s.sc)
  have hsm := movedL_same s (stP s.l s.sc)
  have hin1 := movedL_pn s (stP s.l s.sc) hin
  have hhd := h.movedL_head (stP s.l s.sc) hin
  have hvs := h.movVL_in (stP s.l s.sc) (h.stP_in (.inl hin))
  have hvl : (s.movVL (stP s.l s.sc)).length = nSt s.l s.sc := by rw [movVL_length, stP_length]
  have hsz : szA (s.movedL (stP s.l s.sc)).l s.sc = szA s.l s.sc := szA_congr hhd
  have hf : hdW (s.movedL (stP s.l s.sc)).l s.sc = hdW s.l s.sc := hdW_congr hhd
  have hsc1 : (s.movedL (stP s.l s.sc)).sc = s.sc := hsm.2.2.2.2.1
  have hm1 : (s.movedL (stP s.l s.sc)).mv = true := hsm.2.1.trans hm
  have hsn : s.scan = { s.movedL (stP s.l s.sc) with l := setP (s.movedL (stP s.l s.sc)).l s.sc (s.movVL (stP s.l s.sc)), sc := s.sc + szA s.l s.sc } := rfl
  rw [hsn]
  have hnst : nSt s.l s.sc = if hw (hdW s.l s.sc) then 0 else hp (hdW s.l s.sc) := rfl
  generalize s.movVL (stP s.l s.sc) = vs at *
  generalize s.movedL (stP s.l s.sc) = s1 at *
  have ob := (g.inn _ hin1).2.1
  have hn := ob.nA_le
  have hnp : nSt s.l s.sc ≤ hp (hdW s1.l s.sc) := by rw [hf, hnst]; split <;> omega
  have hnA : nA s1.l s.sc = 3 + hp (hdW s1.l s.sc) + hd (hdW s1.l s.sc) := rfl
  have key : ∀ x t, Live s1 x → t < nA s1.l x → (setP s1.l s.sc vs).getD (x + t) 0 = if x = s.sc ∧ 3 ≤ t ∧ t < 3 + vs.length then ((vs.getD (t - 3) 0 : Nat) : Int) else s1.l.getD (x + t) 0 := fun x t hx ht => by
    have hox := (g.live_ob hx).nA_le
    rw [setP_at (by omega)]
    by_cases e : x = s.sc
    · subst e
      by_cases e2 : 3 ≤ t ∧ t < 3 + vs.length
      · rw [if_pos (by omega), if_pos ⟨rfl, e2⟩, show s.sc + t - (s.sc + 3) = t - 3 from by omega]
      · rw [if_neg (by omega), if_neg fun e3 => e2 e3.2]
    · rw [if_neg, if_neg fun e3 => e e3.1]
      intro e3
      have := (g.live_apart (.inl hin1) (hx.imp id fun e => e.1) (fun e' => e e'.symm) (t := x + t - s.sc) (by omega)).2 (g.live_ob hx) t ht
      omega
  have hval : ∀ i, i < vs.length → (((vs.getD i 0 : Nat) : Int) = 0 ∨ ∃ y ∈ s1.pn, ((vs.getD i 0 : Nat) : Int) = ((y : Nat) : Int)) := fun i hi => by
    rcases hvs (vs.getD i 0) (by rw [List.getD_eq_getElem?_getD, List.getElem?_eq_getElem hi]; exact List.getElem_mem _) with e | e
    · exact .inl (by rw [e]; rfl)
    · exact .inr ⟨_, e, rfl⟩
  have hheads : ∀ y, y ∈ s1.pn ∨ y ∈ s1.pk → (setP s1.l s.sc vs).getD y 0 = s1.l.getD y 0 := fun y hy => by
    have hyl : y < s1.l.length := hy.elim (fun e => (g.pn_lt e).2.2) fun e => (g.pk_lt e).2
    rw [setP_at hyl, if_neg]
    intro e3
    by_cases e : s.sc = y
    · omega
    · have := (g.live_apart (.inl hin1) hy e (t := y - s.sc) (by omega)).1
      omega
  have hz := g.len
  have hb := g.bases
  refine g.again (g.rewrite _ _ (setP_length ..) ?_ (fun y hy => .inl (hheads y hy)) (fun x hx => ?_) (fun x hx i hi => ?_) (fun _ x hx hlt hwx i hi => ?_) fun _ => ?_) (setP_length ..) fun y hy => .inl (hheads y hy)
  · have := g.z0
    rw [setP_at (by omega), if_neg (by omega)]; exact g.zero
  · have := (g.live_ob hx).nA_le
    rw [key x 2 hx (by omega), if_neg (by omega)]
  · rw [key x (3 + i) hx (by unfold nA; omega)]
    split
    · rename_i e
      have := hval (3 + i - 3) (by omega)
      exact this.imp id fun ⟨y, hy, e⟩ => ⟨y, e, .inl hy⟩
    · exact g.ptr x hx i hi
  · rw [key x (3 + i) (.inl hx) (by unfold nA; omega)]
    split
    · rename_i e
      exact hval (3 + i - 3) (by omega)
    · rename_i e
      have hlt' : x < s.sc ∨ x = s.sc := by
        rcases pairwise_get g.srn hx hin1 with e1 | e1 | e1
        · exact .inr e1
        · have := szA_pos (l := s1.l) (a := x); left; omega
        · rw [hsz] at e1; omega
      rcases hlt' with hl | rfl
      · exact g.blk hm1 x hx (by rw [hsc1]; exact hl) hwx i hi
      · exfalso
        refine e ⟨rfl, by omega, ?_⟩
        rw [hf] at hwx hi
        rw [hvl, hnst, hwx]
        simpa using hi
  · have := g.nxt _ hin1
    rw [hsz] at this
    exact this

/-- What a weak object's word is behind loosen, and that no other word turns. -/
theorem Okw.loose1_word {s : Hp} (g : Okw s) {a : Nat} (ha : WkAt s a) {x t : Nat} (hx : x ∈ s.pn) (ht : t < nA s.l x) : (s.loose1 a).l.getD (x + t) 0 = if x = a ∧ t = 3 then ((s.lzV a : Nat) : Int) else s.l.getD (x + t) 0 := by
  have h1 := g.wk_one ha
  have hob := (g.inn x hx).2.1
  have hn := hob.nA_le
  show (s.l.set (a + 3) _).getD (x + t) 0 = _
  rw [set_at' (by omega)]
  by_cases e : x = a
  · subst e
    by_cases e2 : t = 3
    · rw [if_pos (by omega), if_pos ⟨rfl, e2⟩]
    · rw [if_neg (by omega), if_neg fun e3 => e2 e3.2]
  · rw [if_neg, if_neg fun e3 => e e3.1]
    have := (g.live_apart (t := 3) (.inl ha.1) (.inl hx) (fun e' => e e'.symm) (by omega)).2 hob t ht
    omega
theorem Okw.lzV_next {s : Hp} (g : Okw s) {a x : Nat} (ha : WkAt s a) (hx : WkAt s x) : (s.loose1 a).lzV x = s.lzV x := by
  have h1 := g.wk_one hx
  have hpn : (s.loose1 a).pn = s.pn := rfl
  have hw := g.loose1_word ha hx.1 (t := 3) (by omega)
  have hhd := fun y hy => g.loose1_head (x := y) ha hy
  have hfw : ∀ p, InOk s p → fwd (s.loose1 a).l p = fwd s.l p := fun p hp => by
    rcases hp with rfl | e | e
    · rw [g.fwd_zero, (g.loose1 ha).fwd_zero]
    · exact fwd_congr (hhd p (.inl e))
    · exact fwd_congr (hhd p (.inr e))
  unfold Hp.lzV Hp.lzQ
  rw [hpn]
  by_cases e : x = a
  · subst e
    rw [if_pos ⟨rfl, rfl⟩] at hw
    rw [hw, Int.toNat_natCast]
    have e2 : fwd (s.loose1 x).l (s.lzV x) = s.lzV x := by
      rcases lzV_in s x with e | e
      · rw [e, (g.loose1 ha).fwd_zero]
      · rw [hfw _ (.inr (.inl e)), ((g.inn _ e).2.1).fwd]
    rw [e2, if_pos (lzV_in s x)]
    rfl
  · rw [if_neg fun e3 => e e3.1] at hw
    rw [hw, hfw _ h1.2.2.1]
theorem Okw.looseL_word {s : Hp} (g : Okw s) (ws : List Nat) (hws : ∀ a ∈ ws, WkAt s a) {x t : Nat} (hx : x ∈ s.pn) (ht : t < nA s.l x) : (s.looseL ws).l.getD (x + t) 0 = if x ∈ ws ∧ t = 3 then ((s.lzV x : Nat) : Int) else s.l.getD (x + t) 0 := by
  induction ws generalizing s with
  | nil => rw [if_neg fun e => by simp at e]; rfl
  | cons a ws ih =>
    have h0 := hws a List.mem_cons_self
    have g1 := g.loose1 h0
    have hh := fun y hy => g.loose1_head (x := y) h0 hy
    have hws' : ∀ b ∈ ws, WkAt (s.loose1 a) b := fun b hb => by
      obtain ⟨b1, b2⟩ := hws b (List.mem_cons_of_mem _ hb)
      exact ⟨b1, by rw [hdW_congr (hh b (.inl b1))]; exact b2⟩
    have := ih g1 hws' hx (by rw [nA_congr (hh x (.inl hx))]; exact ht)
    show ((s.loose1 a).looseL ws).l.getD (x + t) 0 = _
    rw [this, g.loose1_word h0 hx ht]
    by_cases e : x ∈ ws ∧ t = 3
    · rw [if_pos e, if_pos ⟨List.mem_cons_of_mem _ e.1, e.2⟩, g.lzV_next h0 (hws x (List.mem_cons_of_mem _ e.1))]
    · rw [if_neg e]
      by_cases e2 : x = a ∧ t = 3
      · rw [if_pos e2, if_pos ⟨by rw [e2.1]; exact List.mem_cons_self, e2.2⟩, e2.1]
      · rw [if_neg e2, if_neg]
        rintro ⟨e3, e4⟩
        rcases List.mem_cons.1 e3 with e3 | e3
        · exact e2 ⟨e3, e4⟩
        · exact e ⟨e3, e4⟩

theorem drop_l (s : Hp) : s.drop.l = (s.kept.looseL s.kept.wk).l := rfl
theorem drop_eq (s : Hp) : s.drop = { s with l := s.drop.l, wk := keptL s s.wk, fi := keptL s s.fi, mv := false, pk := [], tk := s.bk, ow := 0 } := by
  have := looseL_eq s.kept s.kept.wk
  unfold Hp.drop
  rw [this]
  rfl
/-- A word behind Drop. -/
theorem Ok.drop_word {s : Hp} (h : Ok s) {x t : Nat} (hx : x ∈ s.pn) (ht : t < nA s.l x) : s.drop.l.getD (x + t) 0 = if hw (hdW s.l x) = true ∧ t = 3 then ((s.kept.lzV x : Nat) : Int) else s.l.getD (x + t) 0 := by
  have g := h.toOkw.kept
  have e := g.looseL_word s.kept.wk h.toOkw.kept_wk (x := x) (t := t) hx ht
  rw [drop_l, e]
  have hiff : x ∈ s.kept.wk ↔ hw (hdW s.l x) = true := by
    constructor
    · exact fun e => (h.toOkw.kept_wk x e).2
    · intro hwx
      obtain ⟨a, ha, ea⟩ := h.wka x hx hwx
      exact mem_keptL.2 ⟨⟨a, ha, ea⟩, hx⟩
  by_cases e2 : hw (hdW s.l x) = true ∧ t = 3
  · rw [if_pos e2, if_pos ⟨hiff.2 e2.1, e2.2⟩]
  · rw [if_neg e2, if_neg fun e3 => e2 ⟨hiff.1 e3.1, e3.2⟩]
    rfl
theorem Ok.drop_head {s : Hp} (h : Ok s) {x : Nat} (hx : x ∈ s.pn) : s.drop.l.getD x 0 = s.l.getD x 0 := by
  have := ((h.inn x hx).2.1).nA_le
  have e := h.drop_word hx (t := 0) (by omega)
  rw [if_neg (by omega)] at e
  exact e
theorem Ok.drop {s : Hp} (h : Ok s) (hm : s.mv = true) (hsc : s.sc = s.tn) : Ok s.drop := by
  have g := (h.toOkw.kept.looseL s.kept.wk h.toOkw.kept_wk).1
  have hhd := fun x hx => h.drop_head (x := x) hx
  have hlen : s.drop.l.length = s.l.length := by
    have h1 := g.len
    have h2 := h.len
    have h3 : (s.kept.looseL s.kept.wk).z = s.z := by rw [looseL_eq]; rfl
    rw [drop_l, h1, h2, h3]
  have hz : s.drop.l.getD 0 0 = 0 := g.zero
  have hpn : s.drop.pn = s.pn := by rw [drop_eq]
  have hpk : s.drop.pk = [] := rfl
  have hlive : ∀ x, Live s.drop x ↔ x ∈ s.pn := fun x => by
    unfold Live
    rw [hpn, hpk]
    exact ⟨fun e => e.elim id fun e => by simp at e, .inl⟩
  have hsz : ∀ x ∈ s.pn, szA s.drop.l x = szA s.l x := fun x hx => szA_congr (hhd x hx)
  have hpos := h.room
  have hb := h.bases
  have hval : ∀ x ∈ s.pn, ∀ i, i < hp (hdW s.l x) → s.drop.l.getD (x + (3 + i)) 0 = 0 ∨ ∃ y ∈ s.pn, s.drop.l.getD (x + (3 + i)) 0 = ((y : Nat) : Int) := fun x hx i hi => by
    have hob := (h.inn x hx).2.1
    rw [h.drop_word hx (by unfold nA; omega)]
    by_cases hwx : hw (hdW s.l x) = true
    · have h1 := (h.toOkw.wk_one ⟨hx, hwx⟩).1
      rw [if_pos ⟨hwx, by omega⟩]
      rcases lzV_in s.kept x with e | e
      · rw [e]; exact .inl rfl
      · exact .inr ⟨_, e, rfl⟩
    · rw [if_neg fun e => hwx e.1]
      exact h.blk hm x hx (by have := (h.pn_lt hx).2.1; omega) (by simpa using hwx) i hi
  have hser : ∀ x ∈ s.pn, s.drop.l.getD (x + 2) 0 = s.l.getD (x + 2) 0 := fun x hx => by
    have := ((h.inn x hx).2.1).nA_le
    rw [h.drop_word hx (by omega), if_neg (by omega)]
  have hkw : ∀ a, a ∈ keptL s s.wk ↔ a ∈ s.pn ∧ hw (hdW s.l a) = true := fun a => by
    constructor
    · intro ha
      have e := h.toOkw.kept_wk a ha
      exact e
    · rintro ⟨hx, hwx⟩
      obtain ⟨b, hb, eb⟩ := h.wka a hx hwx
      exact mem_keptL.2 ⟨⟨b, hb, eb⟩, hx⟩
  rw [drop_eq]
  generalize s.drop.l = l' at *
  refine ⟨⟨h.u01, h.z0, h.z1, hlen.trans h.len, hz, Nat.le_refl _, Nat.le_add_right _ _, by show s.tn + 0 ≤ s.bn + s.z; omega, ?_, rfl, fun x hx => ?_, fun x hx => by simp at hx, ?_, List.Pairwise.nil, h.fst, fun x hx => ?_, fun _ => ⟨rfl, rfl⟩, h.sel, fun x hx => ?_, fun x hx i hi => ?_, fun e => by simp at e, fun e => by simp at e, fun a ha => ?_, fun x hx hwx => ?_, fun a ha => .inl (mem_keptL.1 ha).2, Nat.le_trans (keptL_len s s.wk) h.wkl, Nat.le_trans (keptL_len s s.fi) h.fil⟩, fun x hx => by simp at hx⟩
  · rw [h.sum]
    exact congrArg _ (sum_congr fun x hx => (hsz x hx).symm)
  · obtain ⟨a1, a2, a3⟩ := h.inn x hx
    exact ⟨a1, (isOb_congr hlen (hhd x hx)).2 a2, by rw [hsz x hx]; exact a3⟩
  · exact pairwise_congr h.srn fun x hx y hy e => by rw [hsz x hx]; exact e
  · rw [hsz x hx]; exact h.nxt x hx
  · have hx' : x ∈ s.pn := hx.elim id fun e => by simp at e
    rw [hser x hx']; exact h.ser x (.inl hx')
  · have hx' : x ∈ s.pn := hx.elim id fun e => by simp at e
    rw [hdW_congr (hhd x hx')] at hi
    exact (hval x hx' i hi).imp id fun ⟨y, hy, e⟩ => ⟨y, e, .inl hy⟩
  · obtain ⟨a1, a2⟩ := (hkw a).1 ha
    refine ⟨.inl a1, ?_⟩
    show hw (hdW l' (fwd l' a)) = true
    rw [fwd_congr (hhd a a1), ((h.inn a a1).2.1).fwd, hdW_congr (hhd a a1)]
    exact a2
  · rw [hdW_congr (hhd x hx)] at hwx
    exact ⟨x, (hkw x).2 ⟨hx, hwx⟩, by show fwd l' x = x; rw [fwd_congr (hhd x hx)]; exact ((h.inn x hx).2.1).fwd⟩

end Go.Proofs.YtbjmeibcphmgbaaGreat

namespace Go.Proofs.YtbjmeibcphmgbaaGreat
open Go.ChangeShapes Go.WideShapes Go.ChangeAt Go.RowKit

set_option linter.unusedSimpArgs false
set_option linter.unusedVariables false

/-- A pointer of the first heap (v) and the second one's (u) lead to the same. -/
def SameTo (s : Hp) (f : Nat → Nat) (v u : Int) : Prop :=
  (fwd s.l v.toNat = 0 ∧ u = 0) ∨ (Live s (fwd s.l v.toNat) ∧ u = ((f (fwd s.l v.toNat) : Nat) : Int))
/-- A weak pointer may have let go of what lives no more. -/
def LostTo (s : Hp) (f : Nat → Nat) (v u : Int) : Prop := fwd s.l v.toNat = 0 ∧ ∀ x, Live s x → u ≠ ((f x : Nat) : Int)
structure Tw (q : Bool) (s r : Hp) (f : Nat → Nat) : Prop where
  inj : ∀ x, Live s x → ∀ y, Live s y → f x = f y → x = y
  inn : ∀ x, Live s x → f x ∈ r.pn
  head : ∀ x, Live s x → r.l.getD (f x) 0 = s.l.getD x 0
  ser : q = true → ∀ x, Live s x → r.l.getD (f x + 2) 0 = s.l.getD (x + 2) 0
  num : ∀ x, Live s x → ∀ t, 3 + hp (hdW s.l x) ≤ t → t < nA s.l x → r.l.getD (f x + t) 0 = s.l.getD (x + t) 0
  ptr : ∀ x, Live s x → ∀ i, i < hp (hdW s.l x) → SameTo s f (s.l.getD (x + (3 + i)) 0) (r.l.getD (f x + (3 + i)) 0) ∨ (hw (hdW s.l x) = true ∧ LostTo s f (s.l.getD (x + (3 + i)) 0) (r.l.getD (f x + (3 + i)) 0))

/-- Only the words and who lives count in the first heap, only the words and the places in use in the second one. -/
theorem Tw.same {q : Bool} {s s' r r' : Hp} {f : Nat → Nat} (h : Tw q s r f) (hl : s'.l = s.l) (hL : ∀ x, Live s' x ↔ Live s x) (hr : r'.l = r.l) (hp' : r'.pn = r.pn) : Tw q s' r' f := by
  have hS : ∀ v u, SameTo s f v u → SameTo s' f v u := fun v u e => by
    unfold SameTo at *
    rw [hl, hL]; exact e
  have hT : ∀ v u, LostTo s f v u → LostTo s' f v u := fun v u e => by
    unfold LostTo at *
    rw [hl]
    exact ⟨e.1, fun x hx => e.2 x ((hL x).1 hx)⟩
  refine ⟨fun x hx y hy => h.inj x ((hL x).1 hx) y ((hL y).1 hy), fun x hx => by rw [hp']; exact h.inn x ((hL x).1 hx), fun x hx => by rw [hl, hr]; exact h.head x ((hL x).1 hx),
    fun hq x hx => by rw [hl, hr]; exact h.ser hq x ((hL x).1 hx), fun x hx t => by rw [hl, hr]; exact h.num x ((hL x).1 hx) t, fun x hx i hi => ?_⟩
  rw [hl] at hi ⊢
  rw [hr]
  exact (h.ptr x ((hL x).1 hx) i hi).imp (hS _ _) fun e => ⟨e.1, hT _ _ e.2⟩
/-- A collection begins. -/
theorem Tw.flip {q : Bool} {s r : Hp} {f : Nat → Nat} (h : Tw q s r f) (g : Okw s) (hm : s.mv = false) : Tw q s.flip r f :=
  h.same rfl (fun x => by
    have e := (g.stop hm).1
    show (x ∈ s.pk ∨ x ∈ s.pn ∧ isOb s.l x) ↔ (x ∈ s.pn ∨ x ∈ s.pk ∧ isOb s.l x)
    rw [e]
    constructor
    · rintro (h | h)
      · simp at h
      · exact .inl h.1
    · rintro (h | h)
      · exact .inr ⟨h, (g.inn x h).2.1⟩
      · simp at h) rfl rfl
/-- Those to be finalized are told. -/
theorem Tw.fins {q : Bool} {s r : Hp} {f : Nat → Nat} (h : Tw q s r f) (l : List Nat) : Tw q { s with fi := l } r f := h.same rfl (fun _ => Iff.rfl) rfl rfl
/-- A new one at either side: the first heap's at a, the second one's at b. -/
theorem nil_tw (q : Bool) (z z' : Nat) (f : Nat → Nat) : Tw q (Hp.new z) (Hp.new z') f := by
  have no : ∀ x, ¬ Live (Hp.new z) x := fun x hx => by
    rcases hx with e | e
    · simp [Hp.new] at e
    · simp [Hp.new] at e
  exact ⟨fun x hx => absurd hx (no x), fun x hx => absurd hx (no x), fun x hx => absurd hx (no x), fun _ x hx => absurd hx (no x), fun x hx => absurd hx (no x), fun x hx => absurd hx (no x)⟩

/-- A word of an object in use, and that of its like, are set. -/
theorem Tw.put {q : Bool} {s r : Hp} {f : Nat → Nat} (h : Tw q s r f) (g : Okw s) (k : Okw r) {x t : Nat} {v u : Int} (hx : x ∈ s.pn) (ht : t < nA s.l x) (h3 : 3 ≤ t) (hn : 3 + hp (hdW s.l x) ≤ t → u = v)
    (hp' : t < 3 + hp (hdW s.l x) → PtrOk s v ∧ (SameTo s f v u ∨ (hw (hdW s.l x) = true ∧ LostTo s f v u))) : Tw q (s.put (x + t) v) (r.put (f x + t) u) f := by
  have hL : Live s x := .inl hx
  have e1 := g.put_heads (v := v) hx ht (.inr h3)
  have hlen : (s.put (x + t) v).l.length = s.l.length := by simp [Hp.put]
  have hnr : nA r.l (f x) = nA s.l x := by
    have := h.head x hL
    unfold nA hdW
    rw [this]
  have e2 := k.put_heads (v := u) (h.inn x hL) (t := t) (by rw [hnr]; exact ht) (.inr h3)
  have hlive : ∀ y, Live (s.put (x + t) v) y ↔ Live s y := fun y => by
    refine or_congr Iff.rfl (and_congr_right fun hy => ?_)
    exact isOb_congr hlen (e1 y (.inr hy))
  have hin : ∀ y, Live s y → y ∈ s.pn ∨ y ∈ s.pk := fun y hy => hy.imp id fun e => e.1
  have hhd : ∀ y, Live s y → hdW (s.put (x + t) v).l y = hdW s.l y := fun y hy => hdW_congr (e1 y (hin y hy))
  have w1 : ∀ y, Live s y → ∀ j, j < nA s.l y → (s.put (x + t) v).l.getD (y + j) 0 = if y = x ∧ j = t then v else s.l.getD (y + j) 0 := fun y hy j hj => by
    have hyl := (g.live_ob hy).nA_le
    show (s.l.set (x + t) v).getD (y + j) 0 = _
    rw [set_at' (by omega)]
    by_cases e : y = x
    · subst e
      by_cases e' : j = t
      · subst e'; rw [if_pos rfl, if_pos ⟨rfl, rfl⟩]
      · rw [if_neg (by omega), if_neg (fun h => e' h.2)]
    · rw [if_neg (fun e' => (g.live_apart hL (hin y hy) (fun h => e h.symm) ht).2 (g.live_ob hy) j hj e'.symm), if_neg (fun h => e h.1)]
  have w2 : ∀ y, Live s y → ∀ j, j < nA s.l y → (r.put (f x + t) u).l.getD (f y + j) 0 = if y = x ∧ j = t then u else r.l.getD (f y + j) 0 := fun y hy j hj => by
    have hy' : Live r (f y) := .inl (h.inn y hy)
    have hnr' : nA r.l (f y) = nA s.l y := by
      have := h.head y hy
      unfold nA hdW
      rw [this]
    have hyl := (k.live_ob hy').nA_le
    show (r.l.set (f x + t) u).getD (f y + j) 0 = _
    rw [set_at' (by omega)]
    by_cases e : y = x
    · subst e
      by_cases e' : j = t
      · subst e'; rw [if_pos rfl, if_pos ⟨rfl, rfl⟩]
      · rw [if_neg (by omega), if_neg (fun h => e' h.2)]
    · have hne : f x ≠ f y := fun e' => e (h.inj x hL y hy e').symm
      rw [if_neg (fun e' => (k.live_apart (.inl (h.inn x hL)) (.inl (h.inn y hy)) hne (by rw [hnr]; exact ht)).2 (k.live_ob hy') j (by omega) e'.symm), if_neg (fun h => e h.1)]
  have hf : ∀ v', PtrOk s v' → fwd (s.put (x + t) v).l v'.toNat = fwd s.l v'.toNat := fun v' hv' => by
    rcases hv' with e | ⟨y, e, hy⟩
    · subst e
      refine fwd_congr ?_
      show (s.l.set (x + t) v).getD 0 0 = _
      have := (g.live_ob hL).nA_le
      rw [set_at' (by omega), if_neg (by omega)]
      rfl
    · subst e
      exact fwd_congr (e1 y hy)
  have hS : ∀ v' u', PtrOk s v' → SameTo s f v' u' → SameTo (s.put (x + t) v) f v' u' := fun v' u' o e => by
    unfold SameTo at *
    rw [hf v' o, hlive]; exact e
  have hT : ∀ v' u', PtrOk s v' → LostTo s f v' u' → LostTo (s.put (x + t) v) f v' u' := fun v' u' o e => by
    unfold LostTo at *
    rw [hf v' o]
    exact ⟨e.1, fun y hy => e.2 y ((hlive y).1 hy)⟩
  have hA : ∀ y, Live s y → 3 ≤ nA s.l y := fun y hy => (g.live_ob hy).nA_le.1
  refine ⟨fun a ha b hb => h.inj a ((hlive a).1 ha) b ((hlive b).1 hb), fun a ha => h.inn a ((hlive a).1 ha), fun a ha => ?_, fun hq a ha => ?_, fun a ha j h1 h2 => ?_, fun a ha i hi => ?_⟩
  · have ha' := (hlive a).1 ha
    rw [e1 a (hin a ha'), e2 (f a) (.inl (h.inn a ha'))]
    exact h.head a ha'
  · have ha' := (hlive a).1 ha
    have := hA a ha'
    rw [w1 a ha' 2 (by omega), w2 a ha' 2 (by omega), if_neg (by omega), if_neg (by omega)]
    exact h.ser hq a ha'
  · have ha' := (hlive a).1 ha
    rw [hhd a ha'] at h1
    rw [nA_congr (e1 a (hin a ha'))] at h2
    rw [w1 a ha' j h2, w2 a ha' j h2]
    by_cases e : a = x ∧ j = t
    · rw [if_pos e, if_pos e]
      obtain ⟨rfl, rfl⟩ := e
      exact hn h1
    · rw [if_neg e, if_neg e]
      exact h.num a ha' j h1 h2
  · have ha' := (hlive a).1 ha
    rw [hhd a ha'] at hi ⊢
    have hj : 3 + i < nA s.l a := by unfold nA; omega
    rw [w1 a ha' (3 + i) hj, w2 a ha' (3 + i) hj]
    by_cases e : a = x ∧ 3 + i = t
    · rw [if_pos e, if_pos e]
      obtain ⟨rfl, rfl⟩ := e
      obtain ⟨o, e⟩ := hp' (by omega)
      exact e.imp (hS _ _ o) fun e => ⟨e.1, hT _ _ o e.2⟩
    · rw [if_neg e, if_neg e]
      have o := g.ptr a ha' i hi
      exact (h.ptr a ha' i hi).imp (hS _ _ o) fun e => ⟨e.1, hT _ _ o e.2⟩

theorem Okw.live_ne_tn {s : Hp} (h : Okw s) {x : Nat} (hx : Live s x) (hr : s.tn < s.bn + s.z) : x ≠ s.tn := by
  rcases hx with e | e
  · have := (h.pn_lt e).2.1; omega
  · have h1 := h.ink x e.1
    have h2 := h.k1
    have h3 := h.t0
    have h4 := h.bases
    omega
/-- An object is laid in both. -/
theorem Tw.lay {q : Bool} {s r : Hp} {f : Nat → Nat} (h : Tw q s r f) (g : Ok s) (k : Ok r) {p d : Nat} {wk fn : Bool} (o1 : shB p d wk fn = true) (o2 : p ≤ 8) (o3 : d ≤ 8) (hr : Cls.rd (3 + p + d) ≤ s.room) (hr' : Cls.rd (3 + p + d) ≤ r.room) (hq : q = true → r.se = s.se) :
    Tw q (s.lay p d wk fn) (r.lay p d wk fn) (fun x => if x = s.tn then r.tn else f x) := by
  have pl := g.lay_place o1 o2 o3 hr
  have pl' := k.lay_place o1 o2 o3 hr'
  have hne : ∀ x, Live s x → x ≠ s.tn := fun x hx => g.live_ne_tn hx (by omega)
  have hne' : ∀ x, Live s x → f x ≠ r.tn := fun x hx => k.live_ne_tn (.inl (h.inn x hx)) (by omega)
  have hlive : ∀ x, Live (s.lay p d wk fn) x ↔ x = s.tn ∨ Live s x := fun x => g.lay_live o1 o2 o3 hr
  have hpn : (r.lay p d wk fn).pn = r.pn ++ [r.tn] := rfl
  have eo := fun x (hx : Live s x) t (ht : t < nA s.l x) => g.lay_old o1 o2 o3 hr hx ht
  have hhd : ∀ x, Live s x → r.l.getD (f x) 0 = s.l.getD x 0 := h.head
  have hnr : ∀ x, Live s x → nA r.l (f x) = nA s.l x := fun x hx => by unfold nA hdW; rw [hhd x hx]
  have eo' := fun x (hx : Live s x) t (ht : t < nA s.l x) => k.lay_old o1 o2 o3 hr' (x := f x) (t := t) (.inl (h.inn x hx)) (by rw [hnr x hx]; exact ht)
  have hin : ∀ y, Live s y → y ∈ s.pn ∨ y ∈ s.pk := fun y hy => hy.imp id fun e => e.1
  have hh0 : ∀ x, Live s x → (s.lay p d wk fn).l.getD x 0 = s.l.getD x 0 := fun x hx => g.lay_head o1 o2 o3 hr (hin x hx)
  have hh0' : ∀ x, Live s x → (r.lay p d wk fn).l.getD (f x) 0 = r.l.getD (f x) 0 := fun x hx => k.lay_head o1 o2 o3 hr' (.inl (h.inn x hx))
  have hon := hdW_obj (g.lay_new o1 o2 o3 hr (p := p) (d := d) (wk := wk) (fn := fn))
  have nn := nA_obj (g.lay_new o1 o2 o3 hr (p := p) (d := d) (wk := wk) (fn := fn))
  have key := fun t (ht : t < 3 + p + d) => g.lay_key o1 o2 o3 hr (p := p) (d := d) (wk := wk) (fn := fn) (j := s.tn + t) (by omega)
  have key' := fun t (ht : t < 3 + p + d) => k.lay_key o1 o2 o3 hr' (p := p) (d := d) (wk := wk) (fn := fn) (j := r.tn + t) (by omega)
  have hf : ∀ v, PtrOk s v → fwd (s.lay p d wk fn).l v.toNat = fwd s.l v.toNat := fun v hv => by
    rcases hv with e | ⟨y, e, hy⟩
    · subst e
      refine fwd_congr ?_
      have := g.t0; have := g.bases
      rw [g.lay_key o1 o2 o3 hr (by rw [g.len]; show (0 : Nat) < _; omega)]
      rw [if_neg (by show ¬ (0 : Nat) = _; omega), if_neg (by show ¬ (0 : Nat) = _; omega), if_neg (by show ¬ (_ ≤ (0 : Nat) ∧ _); omega)]
    · subst e
      exact g.lay_fwd o1 o2 o3 hr hy
  have hS : ∀ v u, PtrOk s v → SameTo s f v u → SameTo (s.lay p d wk fn) (fun x => if x = s.tn then r.tn else f x) v u := fun v u o e => by
    unfold SameTo at *
    rw [hf v o, hlive]
    rcases e with e | ⟨e1, e2⟩
    · exact .inl e
    · refine .inr ⟨.inr e1, ?_⟩
      show u = ((if fwd s.l v.toNat = s.tn then r.tn else f (fwd s.l v.toNat) : Nat) : Int)
      rw [if_neg (hne _ e1)]; exact e2
  have hT : ∀ v u, PtrOk s v → (∀ y : Nat, u = (y : Int) → y = 0 ∨ y ∈ r.pn ∨ y ∈ r.pk) → LostTo s f v u → LostTo (s.lay p d wk fn) (fun x => if x = s.tn then r.tn else f x) v u := fun v u o o' e => by
    unfold LostTo at *
    rw [hf v o]
    refine ⟨e.1, fun x hx => ?_⟩
    show u ≠ ((if x = s.tn then r.tn else f x : Nat) : Int)
    rcases (hlive x).1 hx with e' | e'
    · rw [if_pos e']
      intro e2
      have h2 := o' _ e2
      have h3 := k.t0
      have h4 := k.bases
      rcases h2 with h2 | h2 | h2
      · omega
      · have := (k.pn_lt h2).2.1; omega
      · have := k.ink _ h2; have := k.k1; omega
    · rw [if_neg (hne x e')]; exact e.2 x e'
  have cases : ∀ x, Live (s.lay p d wk fn) x → (x = s.tn ∧ (if x = s.tn then r.tn else f x) = r.tn) ∨ (Live s x ∧ (if x = s.tn then r.tn else f x) = f x) := fun x hx => by
    rcases (hlive x).1 hx with e | e
    · exact .inl ⟨e, if_pos e⟩
    · exact .inr ⟨e, if_neg (hne x e)⟩
  have hA : ∀ y, Live s y → 3 ≤ nA s.l y := fun y hy => (g.live_ob hy).nA_le.1
  refine ⟨fun x hx y hy e => ?_, fun x hx => ?_, fun x hx => ?_, fun hq' x hx => ?_, fun x hx t h1 h2 => ?_, fun x hx i hi => ?_⟩
  · rcases cases x hx with ⟨e1, e2⟩ | ⟨e1, e2⟩ <;> rcases cases y hy with ⟨e3, e4⟩ | ⟨e3, e4⟩ <;> rw [e2, e4] at e
    · omega
    · exact absurd e.symm (hne' y e3)
    · exact absurd e (hne' x e1)
    · exact h.inj x e1 y e3 e
  · rw [hpn, List.mem_append]
    rcases cases x hx with ⟨e1, e2⟩ | ⟨e1, e2⟩ <;> rw [e2]
    · exact .inr (by simp)
    · exact .inl (h.inn x e1)
  · rcases cases x hx with ⟨e1, e2⟩ | ⟨e1, e2⟩ <;> rw [e2]
    · subst e1
      have a := key 0 (by omega)
      have b := key' 0 (by omega)
      rw [Nat.add_zero] at a b
      rw [a, b]
      simp
    · rw [hh0 x e1, hh0' x e1]; exact h.head x e1
  · rcases cases x hx with ⟨e1, e2⟩ | ⟨e1, e2⟩ <;> rw [e2]
    · subst e1
      rw [key 2 (by omega), key' 2 (by omega), if_pos rfl, if_pos rfl, hq hq']
    · have := hA x e1
      rw [eo x e1 2 (by omega), eo' x e1 2 (by omega)]; exact h.ser hq' x e1
  · rcases cases x hx with ⟨e1, e2⟩ | ⟨e1, e2⟩ <;> rw [e2]
    · subst e1
      rw [nn] at h2
      rw [hon.2.1] at h1
      rw [key t (by omega), key' t (by omega), if_neg (by omega), if_neg (by omega), if_pos (by omega), if_neg (by omega), if_neg (by omega), if_pos (by omega)]
    · rw [nA_congr (hh0 x e1)] at h2
      rw [hdW_congr (hh0 x e1)] at h1
      rw [eo x e1 t h2, eo' x e1 t h2]; exact h.num x e1 t h1 h2
  · rcases cases x hx with ⟨e1, e2⟩ | ⟨e1, e2⟩ <;> rw [e2]
    · subst e1
      rw [hon.2.1] at hi
      rw [key (3 + i) (by omega), key' (3 + i) (by omega), if_neg (by omega), if_neg (by omega), if_pos (by omega), if_neg (by omega), if_neg (by omega), if_pos (by omega)]
      refine .inl (.inl ⟨?_, rfl⟩)
      rw [hf 0 (.inl rfl)]
      exact g.fwd_zero
    · rw [hdW_congr (hh0 x e1)] at hi ⊢
      have hj : 3 + i < nA s.l x := by unfold nA; omega
      rw [eo x e1 (3 + i) hj, eo' x e1 (3 + i) hj]
      have o := g.ptr x e1 i hi
      have hx' : Live r (f x) := .inl (h.inn x e1)
      have hhp : hp (hdW r.l (f x)) = hp (hdW s.l x) := by unfold hdW; rw [hhd x e1]
      have o' := k.ptr (f x) hx' i (by rw [hhp]; exact hi)
      refine (h.ptr x e1 i hi).imp (hS _ _ o) fun e => ⟨e.1, hT _ _ o (fun y ey => ?_) e.2⟩
      rcases o' with e0 | ⟨y', e0, hy'⟩
      · left; omega
      · obtain rfl : y = y' := by omega
        exact .inr hy'

/-- An object of the first heap goes. -/
theorem Tw.go {q : Bool} {s r : Hp} {f : Nat → Nat} (h : Tw q s r f) (g : Okw s) {p : Nat} (hk : p ∈ s.pk) (ho : isOb s.l p) : Tw q (s.go p) r (fun x => f (if x = s.tn then p else x)) := by
  have was := fun x (hx : Live (s.go p) x) => g.go_was hk ho hx
  have word := fun x (hx : Live (s.go p) x) t (ht : t < nA (s.go p).l x) => g.go_word hk ho hx ht
  have ob := fun x (hx : Live (s.go p) x) => (g.go_ob hk ho hx).nA_le
  have hnA : ∀ x, Live (s.go p) x → nA (s.go p).l x = nA s.l (if x = s.tn then p else x) := fun x hx => by unfold nA; rw [(was x hx).2]
  have pl := g.go_place hk ho
  have hnp : ¬ Live (s.go p) p := fun hx => (gone_fwd (g.go_p hk ho)).2.2 (g.go_ob hk ho hx)
  have hne : ∀ x, Live s x → x ≠ s.tn := fun x hx => g.live_ne_tn hx (by omega)
  have hp0 : p ≠ 0 := by have := (g.pk_lt hk).1; omega
  have hf : ∀ v, PtrOk s v → fwd (s.go p).l v.toNat = if fwd s.l v.toNat = p then s.tn else fwd s.l v.toNat := fun v hv => by
    rcases hv with e | ⟨y, e, hy⟩
    · subst e
      have e0 : fwd s.l (0 : Int).toNat = 0 := g.fwd_zero
      rw [e0, if_neg (fun e => hp0 e.symm), ← e0]
      refine fwd_congr ?_
      show (s.go p).l.getD 0 0 = s.l.getD 0 0
      rw [g.go_key hk ho (by omega), if_neg (fun e => hp0 e.symm), if_neg (by have := g.bases; omega)]
    · subst e
      exact g.go_fwd hk ho hy
  have hS : ∀ v u, PtrOk s v → SameTo s f v u → SameTo (s.go p) (fun x => f (if x = s.tn then p else x)) v u := fun v u o e => by
    unfold SameTo at *
    rw [hf v o]
    rcases e with e | ⟨e1, e2⟩
    · left
      rw [if_neg (fun e' => hp0 (e'.symm.trans e.1))]
      exact e
    · right
      by_cases e : fwd s.l v.toNat = p
      · rw [if_pos e]
        refine ⟨(g.go_live hk ho).2 (.inl rfl), ?_⟩
        show u = ((f (if s.tn = s.tn then p else s.tn) : Nat) : Int)
        rw [if_pos rfl, ← e]; exact e2
      · rw [if_neg e]
        refine ⟨(g.go_live hk ho).2 (.inr (e1.imp id fun e' => ⟨e'.1, e, e'.2⟩)), ?_⟩
        show u = ((f (if fwd s.l v.toNat = s.tn then p else fwd s.l v.toNat) : Nat) : Int)
        rw [if_neg (hne _ e1)]; exact e2
  have hT : ∀ v u, PtrOk s v → LostTo s f v u → LostTo (s.go p) (fun x => f (if x = s.tn then p else x)) v u := fun v u o e => by
    unfold LostTo at *
    rw [hf v o, if_neg (fun e' => hp0 (e'.symm.trans e.1))]
    exact ⟨e.1, fun x hx => e.2 _ (was x hx).1⟩
  refine ⟨fun x hx y hy e => ?_, fun x hx => h.inn _ (was x hx).1, fun x hx => ?_, fun hq x hx => ?_, fun x hx t h1 h2 => ?_, fun x hx i hi => ?_⟩
  · have e' := h.inj _ (was x hx).1 _ (was y hy).1 e
    by_cases e1 : x = s.tn <;> by_cases e2 : y = s.tn
    · omega
    · rw [if_pos e1, if_neg e2] at e'
      exact absurd (e' ▸ hy) hnp
    · rw [if_neg e1, if_pos e2] at e'
      exact absurd (e'.symm ▸ hx) (by rw [e']; exact hnp)
    · rw [if_neg e1, if_neg e2] at e'; exact e'
  · have := word x hx 0 (by have := ob x hx; omega)
    rw [Nat.add_zero, Nat.add_zero] at this
    rw [this]
    exact h.head _ (was x hx).1
  · rw [word x hx 2 (by have := ob x hx; omega)]
    exact h.ser hq _ (was x hx).1
  · rw [word x hx t h2]
    rw [(was x hx).2] at h1
    rw [hnA x hx] at h2
    exact h.num _ (was x hx).1 t h1 h2
  · rw [word x hx (3 + i) (by unfold nA; omega)]
    rw [(was x hx).2] at hi ⊢
    have o := g.ptr _ (was x hx).1 i hi
    exact (h.ptr _ (was x hx).1 i hi).imp (hS _ _ o) fun e => ⟨e.1, hT _ _ o e.2⟩

/-- A collection ends: the first heap lets go of what has not gone. -/
theorem Tw.drop {q : Bool} {s r : Hp} {f : Nat → Nat} (h : Tw q s r f) (g : Ok s) (hm : s.mv = true) (hsc : s.sc = s.tn) : Tw q s.drop r f := by
  have hpn : s.drop.pn = s.pn := by rw [drop_eq]
  have hpk : s.drop.pk = [] := rfl
  have hlive : ∀ x, Live s.drop x ↔ x ∈ s.pn := fun x => by
    unfold Live
    rw [hpn, hpk]
    exact ⟨fun e => e.elim id fun e => by simp at e, .inl⟩
  have hhd := fun x hx => g.drop_head (x := x) hx
  have hz : s.drop.l.getD 0 0 = 0 := (g.toOkw.kept.looseL s.kept.wk g.toOkw.kept_wk).1.zero
  have f0 : fwd s.drop.l (0 : Int).toNat = 0 := by
    show fwd s.drop.l 0 = 0
    unfold fwd hdW
    rw [hz]; rfl
  have fy : ∀ y ∈ s.pn, fwd s.drop.l ((y : Nat) : Int).toNat = y := fun y hy => by
    rw [Int.toNat_natCast, fwd_congr (hhd y hy)]
    exact ((g.inn y hy).2.1).fwd
  have sy : ∀ y ∈ s.pn, fwd s.l ((y : Nat) : Int).toNat = y := fun y hy => by
    rw [Int.toNat_natCast]
    exact ((g.inn y hy).2.1).fwd
  have hpos : ∀ y ∈ s.pn, y ≠ 0 := fun y hy => by have := (g.pn_lt hy).1; omega
  refine ⟨fun x hx y hy => h.inj x (.inl ((hlive x).1 hx)) y (.inl ((hlive y).1 hy)), fun x hx => h.inn x (.inl ((hlive x).1 hx)), fun x hx => ?_, fun hq x hx => ?_, fun x hx t h1 h2 => ?_, fun x hx i hi => ?_⟩
  · have hx' := (hlive x).1 hx
    rw [hhd x hx']; exact h.head x (.inl hx')
  · have hx' := (hlive x).1 hx
    have := ((g.inn x hx').2.1).nA_le
    rw [g.drop_word hx' (by omega), if_neg (by omega)]; exact h.ser hq x (.inl hx')
  · have hx' := (hlive x).1 hx
    rw [hdW_congr (hhd x hx')] at h1
    rw [nA_congr (hhd x hx')] at h2
    rw [g.drop_word hx' h2, if_neg ?_]
    · exact h.num x (.inl hx') t h1 h2
    · rintro ⟨e1, e2⟩
      have := (g.toOkw.wk_one ⟨hx', e1⟩).1
      omega
  · have hx' := (hlive x).1 hx
    rw [hdW_congr (hhd x hx')] at hi ⊢
    rw [g.drop_word hx' (by unfold nA; omega)]
    have o := h.ptr x (.inl hx') i hi
    by_cases hwx : hw (hdW s.l x) = true
    · have h1 := g.toOkw.wk_one ⟨hx', hwx⟩
      have hi0 : i = 0 := by omega
      subst hi0
      rw [if_pos ⟨hwx, rfl⟩]
      have hlz : s.kept.lzV x = if fwd s.l (s.l.getD (x + 3) 0).toNat ∈ s.pn then fwd s.l (s.l.getD (x + 3) 0).toNat else 0 := by
        have e : s.kept.lzV x = if fwd s.l (s.l.getD (x + 3) 0).toNat = 0 ∨ fwd s.l (s.l.getD (x + 3) 0).toNat ∈ s.pn then fwd s.l (s.l.getD (x + 3) 0).toNat else 0 := rfl
        rw [e]
        by_cases e1 : fwd s.l (s.l.getD (x + 3) 0).toNat ∈ s.pn
        · rw [if_pos (.inr e1), if_pos e1]
        · rw [if_neg e1]
          by_cases e2 : fwd s.l (s.l.getD (x + 3) 0).toNat = 0
          · rw [if_pos (.inl e2), e2]
          · rw [if_neg (fun e => e.elim e2 e1)]
      rw [hlz]
      by_cases hin : fwd s.l (s.l.getD (x + 3) 0).toNat ∈ s.pn
      · rw [if_pos hin]
        rcases o with (o | o) | ⟨_, o⟩
        · exact absurd o.1 (hpos _ hin)
        · refine .inl (.inr ?_)
          rw [fy _ hin]
          exact ⟨(hlive _).2 hin, o.2⟩
        · exact absurd o.1 (hpos _ hin)
      · rw [if_neg hin]
        rcases o with (o | o) | ⟨_, o⟩
        · exact .inl (.inl ⟨f0, o.2⟩)
        · refine .inr ⟨hwx, f0, fun y hy e => ?_⟩
          have e3 := o.2.symm.trans e
          have := h.inj _ o.1 y (.inl ((hlive y).1 hy)) (by omega)
          exact hin (this ▸ (hlive y).1 hy)
        · exact .inr ⟨hwx, f0, fun y hy => o.2 y (.inl ((hlive y).1 hy))⟩
    · rw [if_neg fun e => hwx e.1]
      rcases o with o | ⟨o, _⟩
      · left
        rcases g.blk hm x hx' (by have := (g.pn_lt hx').2.1; omega) (by simpa using hwx) i hi with e | ⟨y, hy, e⟩
        · rw [e] at o ⊢
          rcases o with o | o
          · exact .inl ⟨f0, o.2⟩
          · exfalso
            have e0 : fwd s.l (0 : Int).toNat = 0 := g.toOkw.fwd_zero
            rw [e0] at o
            rcases o.1 with o | o
            · exact hpos 0 o rfl
            · have := (g.pk_lt o.1).1; omega
        · rw [e] at o ⊢
          unfold SameTo at *
          rw [sy y hy] at o
          rw [fy y hy]
          rcases o with o | o
          · exact absurd o.1 (hpos y hy)
          · exact .inr ⟨(hlive y).2 hy, o.2⟩
      · exact absurd o hwx

/-- One is asked to go. -/
theorem Tw.moved {q : Bool} {s r : Hp} {f : Nat → Nat} (h : Tw q s r f) (g : Okw s) (p : Nat) : ∃ f', Tw q (s.moved p) r f' ∧ ∀ x ∈ s.pn, f' x = f x := by
  by_cases hc : p ∈ s.pk ∧ hdW s.l p % 2 = 1
  · have ho := (g.odd_iff hc.1).1 hc.2
    have e : s.moved p = s.go p := (g.moved_live hc.1 ho).1
    have pl := g.go_place hc.1 ho
    rw [e]
    exact ⟨_, h.go g hc.1 ho, fun x hx => by
      show f (if x = s.tn then p else x) = f x
      rw [if_neg (g.live_ne_tn (.inl hx) (by omega))]⟩
  · have e : s.moved p = s := by unfold Hp.moved; rw [if_neg hc]
    rw [e]
    exact ⟨f, h, fun _ _ => rfl⟩
theorem Tw.movedL {q : Bool} {s r : Hp} {f : Nat → Nat} (h : Tw q s r f) (g : Ok s) (ps : List Nat) : ∃ f', Tw q (s.movedL ps) r f' ∧ ∀ x ∈ s.pn, f' x = f x := by
  induction ps generalizing s f with
  | nil => exact ⟨f, h, fun _ _ => rfl⟩
  | cons p ps ih =>
    obtain ⟨f1, h1, e1⟩ := h.moved g.toOkw p
    obtain ⟨f2, h2, e2⟩ := ih h1 (g.moved p)
    exact ⟨f2, h2, fun x hx => (e2 x (moved_pn s p hx)).trans (e1 x hx)⟩

theorem Okw.mark_like {s : Hp} (g : Okw s) {x : Nat} (hx : Live s x) {tf : Bool} {p d : Nat} {wk fn fr : Bool} (ho : ObjIs s.l x p d wk fn fr) : ∀ y, y ∈ s.pn ∨ y ∈ s.pk → HeadLike s.l (s.put x (headN p d wk fn tf : Nat)).l y := fun y hy => by
  have hn := (g.live_ob hx).nA_le
  have hf : ObjIs (s.put x (headN p d wk fn tf : Nat)).l x p d wk fn tf := ⟨ho.right, ho.ptrs, ho.data, by show _ ≤ (s.l.set x _).length; rw [List.length_set]; exact ho.room, by show (s.l.set x _).getD x 0 = _; rw [set_at' (by omega), if_pos rfl]⟩
  have hyl : y < s.l.length := hy.elim (fun e => (g.pn_lt e).2.2) fun e => (g.pk_lt e).2
  have e1 := hdW_obj ho
  have e2 := hdW_obj hf
  by_cases e : x = y
  · subst e
    exact .inr ⟨⟨_, _, _, _, _, ho⟩, ⟨_, _, _, _, _, hf⟩, by rw [e1.2.1, e2.2.1], by rw [e1.2.2.1, e2.2.2.1], by rw [e1.2.2.2.1, e2.2.2.2.1], by rw [e1.2.2.2.2.1, e2.2.2.2.2.1]⟩
  · exact .inl (by show (s.l.set x _).getD y 0 = _; rw [set_at' hyl, if_neg (by omega)])
theorem Okw.mark_word {s : Hp} (g : Okw s) {x : Nat} (hx : Live s x) (v : Int) {y t : Nat} (hy : Live s y) (ht : t < nA s.l y) : (s.put x v).l.getD (y + t) 0 = if y = x ∧ t = 0 then v else s.l.getD (y + t) 0 := by
  have hyo := (g.live_ob hy).nA_le
  show (s.l.set x v).getD (y + t) 0 = _
  rw [set_at' (by omega)]
  by_cases e : y = x
  · subst e
    by_cases e' : t = 0
    · subst e'; rw [if_pos (Nat.add_zero y), if_pos ⟨rfl, rfl⟩]
    · rw [if_neg (by omega), if_neg (fun h => e' h.2)]
  · rw [if_neg (g.live_apart hy (hx.imp id fun e => e.1) e ht).1, if_neg (fun h => e h.1)]
/-- One is marked in both. -/
theorem Tw.mark {q : Bool} {s r : Hp} {f : Nat → Nat} (h : Tw q s r f) (g : Okw s) (k : Okw r) {x : Nat} (hx : Live s x) {tf : Bool} {p d : Nat} {wk fn fr : Bool} (ho : ObjIs s.l x p d wk fn fr) : Tw q (s.put x (headN p d wk fn tf : Nat)) (r.put (f x) (headN p d wk fn tf : Nat)) f := by
  have like := g.mark_like hx (tf := tf) ho
  have hlen : (s.put x (headN p d wk fn tf : Nat)).l.length = s.l.length := by simp [Hp.put]
  have hin : ∀ y, Live s y → y ∈ s.pn ∨ y ∈ s.pk := fun y hy => hy.imp id fun e => e.1
  have hlive : ∀ y, Live (s.put x (headN p d wk fn tf : Nat)) y ↔ Live s y := fun y =>
    or_congr Iff.rfl (and_congr_right fun hy => (like y (.inr hy)).ob hlen)
  have hnr : ∀ y, Live s y → nA r.l (f y) = nA s.l y := fun y hy => by
    have := h.head y hy
    unfold nA hdW
    rw [this]
  have hA : ∀ y, Live s y → 3 ≤ nA s.l y := fun y hy => (g.live_ob hy).nA_le.1
  have w1 := fun y (hy : Live s y) t (ht : t < nA s.l y) => g.mark_word hx (headN p d wk fn tf : Nat) hy ht
  have w2 : ∀ y, Live s y → ∀ t, t < nA s.l y → (r.put (f x) (headN p d wk fn tf : Nat)).l.getD (f y + t) 0 = if y = x ∧ t = 0 then ((headN p d wk fn tf : Nat) : Int) else r.l.getD (f y + t) 0 := fun y hy t ht => by
    rw [k.mark_word (.inl (h.inn x hx)) _ (.inl (h.inn y hy)) (by rw [hnr y hy]; exact ht)]
    by_cases e : y = x ∧ t = 0
    · rw [if_pos e, if_pos ⟨by rw [e.1], e.2⟩]
    · rw [if_neg e, if_neg fun e' => e ⟨h.inj y hy x hx e'.1, e'.2⟩]
  have hf : ∀ v, PtrOk s v → fwd (s.put x (headN p d wk fn tf : Nat)).l v.toNat = fwd s.l v.toNat := fun v hv => by
    rcases hv with e | ⟨y, e, hy⟩
    · subst e
      have hx0 : 0 < x := hx.elim (fun e => (g.pn_lt e).1) fun e => (g.pk_lt e.1).1
      refine fwd_congr ?_
      show (s.l.set x _).getD 0 0 = s.l.getD 0 0
      have := (g.live_ob hx).nA_le
      rw [set_at' (by omega), if_neg (by omega)]
    · subst e
      exact (like y hy).fwd
  refine ⟨fun a ha b hb => h.inj a ((hlive a).1 ha) b ((hlive b).1 hb), fun a ha => h.inn a ((hlive a).1 ha), fun a ha => ?_, fun hq a ha => ?_, fun a ha j h1 h2 => ?_, fun a ha i hi => ?_⟩
  · have ha' := (hlive a).1 ha
    have e1 := w1 a ha' 0 (by have := hA a ha'; omega)
    have e2 := w2 a ha' 0 (by have := hA a ha'; omega)
    rw [Nat.add_zero] at e1 e2
    rw [e1, e2, h.head a ha']
  · have ha' := (hlive a).1 ha
    rw [w1 a ha' 2 (by have := hA a ha'; omega), w2 a ha' 2 (by have := hA a ha'; omega), if_neg (by omega), if_neg (by omega)]
    exact h.ser hq a ha'
  · have ha' := (hlive a).1 ha
    rw [((like a (hin a ha')).fields).1] at h1
    rw [(like a (hin a ha')).nA] at h2
    rw [w1 a ha' j h2, w2 a ha' j h2, if_neg (by omega), if_neg (by omega)]
    exact h.num a ha' j h1 h2
  · have ha' := (hlive a).1 ha
    have fl := (like a (hin a ha')).fields
    rw [fl.1] at hi
    rw [fl.2.2.1]
    have hj : 3 + i < nA s.l a := by unfold nA; omega
    rw [w1 a ha' (3 + i) hj, w2 a ha' (3 + i) hj, if_neg (by omega), if_neg (by omega)]
    have o := g.ptr a ha' i hi
    refine (h.ptr a ha' i hi).imp (fun e => ?_) fun e => ⟨e.1, ?_, fun y hy => e.2.2 y ((hlive y).1 hy)⟩
    · unfold SameTo at *
      rw [hf _ o, hlive]; exact e
    · rw [hf _ o]; exact e.2.1

end Go.Proofs.YtbjmeibcphmgbaaGreat

namespace Go.Proofs.YtbjmeibcphmgbaaGreat
set_option linter.unusedVariables false
open Go.RowKit
open Go.Maps (Keyed)

theorem keyI : Keyed Tryz.prog 3 := Maps.int_keyed Tryz.underlying3
theorem zeroI (w : World) : (zeroValue 3).run Tryz.prog w = .ok (.int .i64 0) w := by kernel_rfl
theorem wfI {x : Int} (h : -9223372036854775808 ≤ x ∧ x ≤ 9223372036854775807) : (Lit.int .i64 x).wf = true := WalkArith.wf_i64 h
theorem keyOfI {x : Int} (h : -9223372036854775808 ≤ x ∧ x ≤ 9223372036854775807) : keyOf Tryz.prog 3 (.int .i64 x) = some (.int .i64 x) := Maps.keyOf_int_mk Tryz.underlying3 (wfI h)

/-- Block b is a map of at most n entries, from ints to ints: at x it has g x. -/
def IMap (w : World) (b n : Nat) (g : Int → Option Int) : Prop :=
  ∃ D : DataW Unit, w.ownsMap Tryz.prog 3 (plainElem Tryz.prog 3) b n D ∧ ∀ x, Maps.has D (.int .i64 x) = (g x).isSome ∧ D.atKey (.int .i64 x) (.lit (.int .i64 0)) = .lit (.int .i64 ((g x).getD 0))
/-- Block b is a map of at most n entries, from ints to Bools: at x one reads g x. -/
def BMap (w : World) (b n : Nat) (g : Int → Bool) : Prop :=
  ∃ D : DataW Unit, w.ownsMap Tryz.prog 3 (plainElem Tryz.prog 4) b n D ∧ ∀ x, D.atKey (.int .i64 x) (.lit (.bool false)) = .lit (.bool (g x))

section
variable {w x y : World} {b n : Nat} {g : Int → Option Int} {f : Int → Bool} {S : Nat → Prop}
theorem owns_chg {k : TypeId} {R : Value → Option (DataW Unit × List MemPlace)} {D : DataW Unit} (h : w.ownsMap Tryz.prog k R b n D) (hc : Chg S w x) (hs : ¬ S b) : x.ownsMap Tryz.prog k R b n D := by
  have hl := h.lt
  obtain ⟨es, clock, hb, r⟩ := h
  exact ⟨es, clock, (hc.block b hl hs).trans hb, r⟩
theorem IMap.chg (h : IMap w b n g) (hc : Chg S w x) (hs : ¬ S b) : IMap x b n g := by
  obtain ⟨D, h1, h2⟩ := h
  exact ⟨D, owns_chg h1 hc hs, h2⟩
theorem BMap.chg (h : BMap w b n f) (hc : Chg S w x) (hs : ¬ S b) : BMap x b n f := by
  obtain ⟨D, h1, h2⟩ := h
  exact ⟨D, owns_chg h1 hc hs, h2⟩
theorem IMap.lt (h : IMap w b n g) : b < w.heap.size := by obtain ⟨D, h1, _⟩ := h; exact h1.lt
theorem BMap.lt (h : BMap w b n f) : b < w.heap.size := by obtain ⟨D, h1, _⟩ := h; exact h1.lt
theorem IMap.below {m : Nat} (h : IMap w b n g) (hb : Below m w x) (hl : b < m) : IMap x b n g := by
  obtain ⟨D, h1, h2⟩ := h
  obtain ⟨es, clock, e, r⟩ := h1
  exact ⟨D, ⟨es, clock, (hb.block b hl).trans e, r⟩, h2⟩
theorem BMap.below {m : Nat} (h : BMap w b n f) (hb : Below m w x) (hl : b < m) : BMap x b n f := by
  obtain ⟨D, h1, h2⟩ := h
  obtain ⟨es, clock, e, r⟩ := h1
  exact ⟨D, ⟨es, clock, (hb.block b hl).trans e, r⟩, h2⟩
theorem IMap.on (h : IMap w b n g) (hb : Below w.heap.size w x) : IMap x b n g := h.below hb h.lt
theorem BMap.on (h : BMap w b n f) (hb : Below w.heap.size w x) : BMap x b n f := h.below hb h.lt
theorem IMap.new (w : World) : IMap (w.alloc (.map #[] 0)) w.heap.size 0 (fun _ => none) :=
  ⟨.map [], World.ownsMap_made _ _ _ _, fun x => ⟨rfl, rfl⟩⟩
theorem BMap.new (w : World) : BMap (w.alloc (.map #[] 0)) w.heap.size 0 (fun _ => false) :=
  ⟨.map [], World.ownsMap_made _ _ _ _, fun x => rfl⟩
theorem IMap.same {g' : Int → Option Int} (h : IMap w b n g) (e : ∀ x, g' x = g x) : IMap w b n g' := by rw [show g' = g from funext e]; exact h
theorem BMap.same {f' : Int → Bool} (h : BMap w b n f) (e : ∀ x, f' x = f x) : BMap w b n f' := by rw [show f' = f from funext e]; exact h
theorem IMap.mono {m : Nat} (h : IMap w b n g) (hm : n ≤ m) : IMap w b m g := by obtain ⟨D, h1, h2⟩ := h; exact ⟨D, h1.mono hm, h2⟩
theorem BMap.mono {m : Nat} (h : BMap w b n f) (hm : n ≤ m) : BMap w b m f := by obtain ⟨D, h1, h2⟩ := h; exact ⟨D, h1.mono hm, h2⟩

theorem isKeyI (x : Int) : WideAt.IsKeyLit (.int .i64 x) := trivial

theorem IMap.store {key val : Int} (h : IMap w b n g) (hn : n < maxLen) (hk : -9223372036854775808 ≤ key ∧ key ≤ 9223372036854775807) (hv : -9223372036854775808 ≤ val ∧ val ≤ 9223372036854775807) :
    ∃ w', (Instr.mapUpdate 123 (.map (some b)) (.int .i64 key) (.int .i64 val)).run Tryz.prog w = .ok () w' ∧ IMap w' b (n + 1) (fun x => if x = key then some val else g x) ∧ Chg (· = b) w w' := by
  obtain ⟨D, h1, h2⟩ := h
  obtain ⟨w', hr, h3, hg⟩ := h1.update keyI Tryz.underlying123 hn (keyOfI hk) (plainElem_int Tryz.underlying3 (wfI hv))
  refine ⟨w', hr, ⟨_, h3, fun x => ?_⟩, Chg.of_grown hg fun k e => by injection e⟩
  dsimp only
  by_cases e : x = key
  · subst e
    rw [if_pos rfl]
    exact ⟨Maps.has_put_same h1.isMap (isKeyI _) _, Maps.atKey_put_same h1.isMap (isKeyI _) _ _⟩
  · have hne : Lit.int .i64 x ≠ .int .i64 key := fun e' => e (by injection e')
    rw [if_neg e, Maps.has_put_other hne, Maps.atKey_put_other hne]
    exact h2 x
theorem IMap.find {key : Int} (h : IMap w b n g) (hk : -9223372036854775808 ≤ key ∧ key ≤ 9223372036854775807) :
    (Instr.lookup 123 (.map (some b)) (.int .i64 key) true).run Tryz.prog w = .ok (.tuple #[.int .i64 ((g key).getD 0), .bool (g key).isSome]) w := by
  obtain ⟨D, h1, h2⟩ := h
  obtain ⟨v, ps, hr, hv⟩ := h1.look_ok keyI Tryz.underlying123 (zeroI w) (plainElem_int Tryz.underlying3 (by decide)) (keyOfI hk)
  rw [(h2 key).2] at hv
  obtain ⟨c, rfl, hc, _⟩ := plainElem_int_inv Tryz.underlying3 hv
  replace hc : ((g key).getD 0) = c := by simpa using congrArg Prod.fst hc
  have e : Result.ok (Value.tuple #[.int .i64 c, .bool (Maps.has D (.int .i64 key))]) w = .ok (.tuple #[.int .i64 ((g key).getD 0), .bool (g key).isSome]) w := by rw [(h2 key).1, hc]
  exact hr.trans e
end

section
variable {w : World} {ops : Array Oper} {rest : List Oper} {o : Oper} {a : Act} {Q : Exit → Act → World → Prop} {b n : Nat} {g : Int → Option Int} {f : Int → Bool} {key : Int}
/-- 'v, ok := m[k]' at the operation. -/
theorem wpList_imap_find (hg : o.guard = none) (m x : Operand) (hop : o.op = Op.lookup 123 m x true) (hm : a.eval m = .map (some b)) (h : IMap w b n g) (hx : a.eval x = .int .i64 key) (hk : -9223372036854775808 ≤ key ∧ key ≤ 9223372036854775807)
    (hK : wpList Tryz.prog ops Q rest (a.put o.dst (.tuple #[.int .i64 ((g key).getD 0), .bool (g key).isSome])) w) : wpList Tryz.prog ops Q (o :: rest) a w := by
  refine wpList_plain hg fun K' hK' => ?_
  have hr := h.find hk
  unfold Oper.wp
  simp [execOp, hop, hm, hx, hr, Result.andThen]
  exact hK' _ _ hK
/-- 'm[k] = v' at a step of a region that draws its order. -/
theorem step_imap_store {K : Act → World → Prop} {E : Prop} {val : Int} (hg : o.guard = none) (m x v : Operand) (hop : o.op = Op.mapUpdate 123 m x v) (hm : a.eval m = .map (some b)) (h : IMap w b n g) (hn : n < maxLen)
    (hx : a.eval x = .int .i64 key) (hv : a.eval v = .int .i64 val) (hk : -9223372036854775808 ≤ key ∧ key ≤ 9223372036854775807) (hk' : -9223372036854775808 ≤ val ∧ val ≤ 9223372036854775807)
    (hK : ∀ w', IMap w' b (n + 1) (fun x => if x = key then some val else g x) → Chg (· = b) w w' → K (a.put o.dst undef) w') :
    if Region.wanted o (yielded ops a.tmps) = true then Oper.wp Tryz.prog o a w K Q else E := by
  rw [if_pos (by simp [Region.wanted, hg])]
  obtain ⟨w', hr, h1, h2⟩ := h.store hn hk hk'
  unfold Oper.wp
  simp [execOp, hop, hm, hx, hv, hr, Result.andThen]
  exact hK w' h1 h2
end

end Go.Proofs.YtbjmeibcphmgbaaGreat

namespace Go.Proofs.YtbjmeibcphmgbaaGreat
open Go.ChangeShapes Go.WideShapes Go.ChangeAt Go.RowKit

set_option linter.unusedSimpArgs false
set_option linter.unusedVariables false

/-- What a map of places tells. -/
def rk (o : List Int) (y : Int) : Option Int := (pos y o).map fun k : Nat => (k : Int)
theorem rk_snoc {o : List Int} {x : Int} (h : x ∉ o) (y : Int) : rk (o ++ [x]) y = if y = x then some (o.length : Int) else rk o y := by
  unfold rk
  rw [pos_snoc y x o h]
  split <;> rfl

/-- What one has come to: block F is the struct, block mb its map; the order is the call's own, from block B on. -/
structure FoundAt (B : Nat) (w : World) (F mb : Nat) (ov : Value) (o : List Int) : Prop where
  blk : BlkIs w F #[ov, .map (some mb)] 125
  map : IMap w mb o.length (rk o)
  own : w.ownsRow B 3 1 ov o.length (o.map (Value.int .i64))

theorem IMap.noCell {w : World} {b n : Nat} {g : Int → Option Int} (h : IMap w b n g) (i : Nat) : w.cell? ⟨b, i, none⟩ = none := by
  obtain ⟨D, ⟨es, clock, hb, _⟩, _⟩ := h
  simp [World.cell?, hb]

set_option maxRecDepth 100000 in
theorem rank_any (F mb n : Nat) (ov : Value) (o : List Int) (x : Int) (w : World) (hk : BlkIs w F #[ov, .map (some mb)] 125) (hm : IMap w mb n (rk o)) (hx : -9223372036854775808 ≤ x ∧ x ≤ 9223372036854775807) :
    Calls Tryz.prog 97 #[.pointer (some ⟨F, 0, none⟩), .int .i64 x] w fun e w' => e = .returned (.int .i64 (rankV o x)) ∧ w = w' := by
  have c1 : w.cell? ⟨F, 1, none⟩ = some (.map (some mb)) := hk.cell 1
  by_cases h0 : x = 0
  · subst h0
    have e : rankV o 0 = -1 := rfl
    rw [e]
    go_enter Tryz.func97, Tryz.ntmps97
    go_wp2
    go_ret
    exact ⟨rfl, rfl⟩
  · have b0 : ((x : Int) == 0) = false := by simpa using h0
    cases hr : pos x o with
    | none =>
      have e : rankV o x = -2 := by unfold rankV; rw [if_neg h0, hr]; rfl
      have e2 : rk o x = none := by unfold rk; rw [hr]; rfl
      have H := fun {ops rest op a Q} hg m y hop h1 h2 hK => wpList_imap_find (w := w) (ops := ops) (rest := rest) (o := op) (a := a) (Q := Q) hg m y hop h1 hm h2 hx hK
      simp only [e2] at H
      rw [e]
      clear hr
      go_enter Tryz.func97, Tryz.ntmps97
      go_wp2_with (at_lookup; refine H rfl _ _ rfl rfl rfl ?_; simp only [Option.getD_none, Option.isSome_none])
      go_ret
      exact ⟨rfl, rfl⟩
    | some k =>
      have e : rankV o x = (k : Int) := by unfold rankV; rw [if_neg h0, hr]; rfl
      have e2 : rk o x = some (k : Int) := by unfold rk; rw [hr]; rfl
      have H := fun {ops rest op a Q} hg m y hop h1 h2 hK => wpList_imap_find (w := w) (ops := ops) (rest := rest) (o := op) (a := a) (Q := Q) hg m y hop h1 hm h2 hx hK
      simp only [e2] at H
      rw [e]
      clear hr
      go_enter Tryz.func97, Tryz.ntmps97
      go_wp2_with (at_lookup; refine H rfl _ _ rfl rfl rfl ?_; simp only [Option.getD_some, Option.isSome_some])
      go_ret
      exact ⟨rfl, rfl⟩

/-- What 'add' may turn. -/
def AddS (F mb : Nat) (ov : Value) (k : Nat) : Prop := k = F ∨ k = mb ∨ some k = ov.ownBlock
theorem add1_in {o : List Int} {x : Int} (h : rankV o x ≠ -2) : add1 o x = o := by
  unfold add1
  rw [if_pos]
  by_cases h0 : x = 0
  · exact .inl h0
  · refine .inr (Classical.byContradiction fun hn => h ?_)
    unfold rankV
    rw [if_neg h0, pos_none hn]; rfl
theorem add1_out {o : List Int} {x : Int} (h : rankV o x = -2) : x ∉ o ∧ add1 o x = o ++ [x] := by
  unfold rankV at h
  by_cases h0 : x = 0
  · rw [if_pos h0] at h
    exact absurd h (by decide)
  · rw [if_neg h0] at h
    cases hp : pos x o with
    | none =>
      have hn : x ∉ o := fun hm => by have := pos_mem.2 hm; rw [hp] at this; simp at this
      exact ⟨hn, by unfold add1; rw [if_neg (fun h => h.elim h0 hn)]⟩
    | some k => rw [hp] at h; simp at h
theorem addO_len (o xs : List Int) : (addO o xs).length ≤ o.length + xs.length := by
  induction xs generalizing o with
  | nil => exact Nat.le_refl _
  | cons x xs ih =>
    have h := ih (add1 o x)
    have h1 : (add1 o x).length ≤ o.length + 1 := by unfold add1; split <;> simp
    show (addO (add1 o x) xs).length ≤ _
    simp
    omega

/-- What an append to a row doesn't turn. -/
theorem BlkIs.grown {w w' : World} {F base n size : Nat} {cs : Array Value} {T e : TypeId} {v : Value} {xs : List Value} (h : BlkIs w F cs T) (ho : w.ownsRow base e size v n xs) (hte : e ≠ T) (hg : w.grownBy w' v.ownBlock) : BlkIs w' F cs T := by
  refine (hg.block F h.lt fun e' => ?_).trans h
  obtain ⟨_, cur, hh⟩ := own_block ho e'
  unfold BlkIs at h
  rw [h] at hh
  injection hh with hh
  injection hh with _ hh
  exact hte hh.symm
theorem IMap.grown {w w' : World} {b m base n size : Nat} {g : Int → Option Int} {e : TypeId} {v : Value} {xs : List Value} (h : IMap w b m g) (ho : w.ownsRow base e size v n xs) (hg : w.grownBy w' v.ownBlock) : IMap w' b m g :=
  h.chg (S := fun k => some k = v.ownBlock) (Chg.of_grown hg fun k e => e) fun e' => by
    obtain ⟨_, cur, hh⟩ := own_block ho e'
    obtain ⟨D, ⟨es, clock, hb', _⟩, _⟩ := h
    rw [hh] at hb'
    injection hb' with hb'
    cases hb'

set_option maxRecDepth 100000 in
set_option maxHeartbeats 4000000 in
theorem add_some (F mb B g oz c : Nat) (ov : Value) (o xs : List Int) (w : World) (hF : FoundAt B w F mb ov o) (hB : B ≤ w.heap.size) (hc : xs.length ≤ c) (hlen : o.length + xs.length ≤ 1000000)
    (hx : ∀ j, j < xs.length → w.cell? ⟨g, oz + j, none⟩ = some (.int .i64 (xs.getD j 0))) (hxb : ∀ x ∈ xs, -9223372036854775808 ≤ x ∧ x ≤ 9223372036854775807) (hg : ov.ownBlock ≠ some g) (hpos : 0 < xs.length) :
    Calls Tryz.prog 122 #[.pointer (some ⟨F, 0, none⟩), .slice (some ⟨g, oz, none⟩) xs.length c] w fun e w' => ∃ ov', e = .returned (.tuple #[]) ∧ FoundAt B w' F mb ov' (addO o xs) ∧ (ov'.ownBlock = ov.ownBlock ∨ ∃ k, ov'.ownBlock = some k ∧ w.heap.size ≤ k) ∧ Chg (AddS F mb ov) w w' := by
  obtain ⟨i0, hi, hz0, hz1, hz2⟩ := info_parts infoInt
  have hc0 := hx 0 hpos
  have hgF : ¬ g = F := fun e => by
    subst e
    rw [hF.blk.cell (oz + 0)] at hc0
    obtain ⟨a, c, rfl⟩ := own_slice hF.own
    rcases oz with _ | _ | oz <;> simp at hc0
  have hgm : ¬ g = mb := fun e => by subst e; rw [hF.map.noCell (oz + 0)] at hc0; simp at hc0
  have hgl : g < w.heap.size := World.block_lt_of_cell? w ⟨g, oz + 0, none⟩ (by rw [hc0])
  have hgS : ¬ AddS F mb ov g := fun h => h.elim hgF fun h => h.elim hgm fun h => hg h.symm
  have HX := Lib.hid hx
  have HXB := Lib.hid hxb
  obtain ⟨n, hn⟩ : ∃ n, xs.length = n := ⟨_, rfl⟩
  have Hn := Lib.hid hn
  rw [hn] at hc hlen hpos ⊢
  clear hx hxb hn hc0
  go_enter Tryz.func122, Tryz.ntmps122
  go_wp2
  go_loopw [8] (fun i wr => ∃ (k : Nat) (ov' : Value), k ≤ n ∧ i = .int .i64 k ∧ FoundAt B wr F mb ov' (addO o (xs.take k)) ∧ (ov'.ownBlock = ov.ownBlock ∨ ∃ k, ov'.ownBlock = some k ∧ w.heap.size ≤ k) ∧ Chg (AddS F mb ov) w wr) (fun i _ => n - (intOf i).toNat)
  case atStart => exact ⟨0, ov, by omega, rfl, hF, .inl rfl, Chg.refl _ _⟩
  case round =>
    obtain ⟨k, ov', hk, rfl, hFr, hloc, hch⟩ := hrel
    by_cases hlt : k < n
    · have a1 := (hch.cell (p := ⟨g, oz + k, none⟩) hgl hgS).trans (HX.out k (by rw [Hn.out]; exact hlt))
      have hbx := HXB.out _ (getD_mem (o := xs) (j := k) (by rw [Hn.out]; exact hlt))
      have Ht := Lib.hid (addO_take (o := o) (l := xs) (k := k) (by rw [Hn.out]; exact hlt))
      have hol : (addO o (xs.take k)).length ≤ o.length + k := by have := addO_len o (xs.take k); simp at this; omega
      generalize xs.getD k 0 = x at *
      obtain ⟨o', ho'⟩ : ∃ o', addO o (xs.take k) = o' := ⟨_, rfl⟩
      rw [ho'] at hFr Ht hol
      clear ho'
      have b0 : (0 : Int) ≤ (k : Int) := by omega
      have b1 : (k : Int) < (n : Int) := by omega
      have M1 := rank_any F mb _ ov' o' x wr hFr.blk hFr.map hbx
      by_cases hr : rankV o' x = -2
      · rw [hr] at M1
        obtain ⟨hno, he1⟩ := add1_out hr
        go_wp2_with fail
        refine M1.mono ?_
        rintro e y ⟨rfl, rfl⟩
        clear M1
        go_upto_region 4 with fail
        obtain ⟨oa, ocap, hov⟩ := own_slice hFr.own
        have Hov := Lib.hid hov
        have hF0 : wr.cell? ⟨F, 0, none⟩ = some ov' := hFr.blk.cell 0
        have hF1 : wr.cell? ⟨F, 1, none⟩ = some (.map (some mb)) := hFr.blk.cell 1
        rw [hov] at hF0
        refine wp_region_noPanic ?_
        refine wp_region_held_drew (S := fun y => y.cell? ⟨F, 0, none⟩ = some (.slice oa o'.length ocap) ∧ y.cell? ⟨F, 1, none⟩ = some (.map (some mb))) (by kernel_rfl) ⟨hF0, hF1⟩ (fun hS => ?_)
        clear hF0 hF1
        have hc_ : Cnt 0 := trivial
        iterate 10 ((first | (refine takeC hc_ (v := ?_) rfl (by kernel_rfl) (by kernel_rfl) (by kernel_rfl) (fun _ _ _ h => h) (Or.inl ⟨by rfl, ?_⟩) hS ?_; rotate_left; (· (intro y hy; (try dsimp only at hy); go_simp; try with_reducible rfl))) | refine takeC hc_ (v := undef) rfl (by kernel_rfl) (by kernel_rfl) (by kernel_rfl) (fun _ _ _ h => h) (Or.inr ⟨by rfl, rfl⟩) hS ?_); try simp only [Act.put, List.setIfInBounds_toArray, List.set_cons_zero, List.set_cons_succ, List.getElem_toArray, List.append, List.getElem_cons_zero, List.getElem_cons_succ]; replace hc_ := hc_.next; simp only [Nat.reduceAdd] at hc_)
        clear hc_
        refine wpAnyH_ready (rs := [10]) (by kernel_rfl) (by simp) ?_
        refine AllReadyH.cons (o := _) rfl (fun K hK => ?_) AllReadyH.nil
        have hFl := hFr.blk.lt
        have hFm : ¬ F = mb := fun e => by have h := hFr.map.noCell 0; rw [← e, hFr.blk.cell 0] at h; simp at h
        refine step_imap_store (w := wr.drew) (b := mb) (n := o'.length) (g := rk o') (key := x) (val := (o'.length : Int)) rfl _ _ _ rfl rfl (hFr.map.chg ((Chg.refl (fun _ => False) wr).drew) (fun h => h)) (by unfold maxLen; omega) rfl rfl hbx (by omega) ?_
        intro w2 hm2 hc2
        replace hc2 : Chg (· = mb) wr w2 := ((Chg.refl (· = mb) wr).drew).trans hc2
        have hk2 := hFr.blk.chg hc2 hFm
        have hown2 : w2.ownsRow B 3 1 ov' o'.length (o'.map (Value.int .i64)) := by
          refine ⟨hFr.own.1, hFr.own.2.imp id ?_⟩
          rintro ⟨g, cap, cur, e, hb, hh, r⟩
          refine ⟨g, cap, cur, e, hb, (hc2.block g (Array.getElem?_eq_some_iff.1 hh).1 fun e => ?_).trans hh, r⟩
          subst e
          obtain ⟨D, ⟨es, clock, hb', _⟩, _⟩ := hFr.map
          rw [hh] at hb'
          injection hb' with hb'
          cases hb'
        refine hK.out _ _ (⟨by rw [hk2.cell 0, hov]; rfl, hk2.cell 1⟩) (fun hS => ?_)
        clear hK K
        try simp only [Act.put, List.setIfInBounds_toArray, List.set_cons_zero, List.set_cons_succ]
        refine wpAnyH_done (by kernel_rfl) ?_ _
        refine NoPanic.normal ?_
        clear hS
        replace hm2 := hm2.same (rk_snoc hno)
        have hF0 : w2.cell? ⟨F, 0, none⟩ = some ov' := hk2.cell 0
        have hfz : w2.frozen? ⟨F, 0, none⟩ = false := hk2.free 0
        have hwB : B ≤ w2.heap.size := by have := hch.size; have := hc2.size; omega
        have hol2 : o'.length + 1 ≤ 1000001 := by omega
        have hA2 := hown2.alloc (.cells #[.int .i64 x] 3)
        have hkA := hk2.alloc (.cells #[.int .i64 x] 3)
        have hmA := hm2.on ((Below.refl w2.heap.size w2).alloc (Nat.le_refl _) (.cells #[.int .i64 x] 3))
        have hw2A : w2.heap.size ≤ (w2.alloc (.cells #[.int .i64 x] 3)).heap.size := by simp
        have hcA := (Chg.refl (AddS F mb ov) w2).alloc (.cells #[.int .i64 x] 3)
        clear hov hFr
        go_wp2_with (at_builtin; refine wpList_append_own_at _ rfl _ _ 36 rfl B 3 i0 (.int .i64 0) 1 8 Tryz.underlying36 hi hz0 hz1 hz2 rfl (by decide) ov' _ _ rfl hA2 ⟨w2.heap.size, 0, none⟩ 1 1 [.int .i64 x] rfl rfl (cell_one_new _ _ _) (by simp [Value.oneCell']) (by unfold maxLen; omega) (by omega) (by simp; omega) ?_; intro v' w3 hown3 hgr hnil hat; obtain ⟨oa3, oc3, rfl⟩ := own_slice hown3; have hk3 := hkA.grown hA2 (by decide) hgr; have hm3 := hmA.grown hA2 hgr; have hF3 : w3.cell? ⟨F, 0, none⟩ = some ov' := hk3.cell 0; have hfz3 : w3.frozen? ⟨F, 0, none⟩ = false := hk3.free 0)
        obtain ⟨v', hv'⟩ : ∃ v, Value.slice oa3 (o'.length + 1) oc3 = v := ⟨_, rfl⟩
        have Hv' := Lib.hid hv'
        rw [hv'] at hown3 hat
        clear hv'
        have hk4 := hk3.set 0 v'
        have hw3 := hgr.size
        have hc3 : Chg (AddS F mb ov) w (w3.setCell ⟨F, 0, none⟩ v') := by
          have h1 : Chg (AddS F mb ov) w w2 := hch.trans (hc2.mono fun k e => .inr (.inl e))
          refine ((h1.trans hcA).step (T := fun k => some k = ov'.ownBlock) (Chg.of_grown hgr fun k e => e) fun k e => ?_).setCell (.inl (.inl rfl)) v'
          rcases hloc with h | ⟨k', h, hk'⟩
          · exact .inl (.inr (.inr (by rw [e, h])))
          · rw [h] at e
            injection e with e
            exact .inr (by omega)
        have hl3 : v'.ownBlock = ov.ownBlock ∨ ∃ k, v'.ownBlock = some k ∧ w.heap.size ≤ k := by
          rcases hat with h | h
          · rw [h]; exact hloc
          · exact .inr ⟨_, h, by have := hch.size; have := hc2.size; omega⟩
        have hnb : v'.ownBlock ≠ some F := fun e => by
          obtain ⟨_, cur, hh⟩ := own_block hown3 e.symm
          have := hk3
          unfold BlkIs at this
          rw [this] at hh
          injection hh with hh
          injection hh with _ hh
          exact absurd hh (by decide)
        have hk5 : BlkIs (w3.setCell ⟨F, 0, none⟩ (.slice oa3 (o'.length + 1) oc3)) F _ _ := hk3.set 0 _
        rw [← Hv'.out] at hk4 hc3 hl3 hown3 hnb
        clear Hv' hat v' hk5
        go_wp2
        go_roundw
        case rel =>
          refine ⟨k + 1, _, by omega, by go_num, ?_, hl3, hc3⟩
          rw [Ht.out, he1]
          refine ⟨hk4, ?_, ?_⟩
          · rw [List.length_append]
            exact hm3.chg ((Chg.refl (· = F) w3).setCell (p := ⟨F, 0, none⟩) (.inl rfl) _) (fun e => hFm e.symm)
          · rw [List.length_append, List.map_append]
            refine ⟨hown3.1, hown3.2.imp id ?_⟩
            rintro ⟨g, cap, cur, e, hb, hh, r⟩
            refine ⟨g, cap, cur, e, hb, (Below.heap_setCell w3 ⟨F, 0, none⟩ _ g fun e' => hnb ?_).trans hh, r⟩
            subst e'
            rw [e]; rfl
        case measure => simp [intOf]; omega
      · have e1 := add1_in hr
        have hrb : ((rankV o' x : Int) != -2) = true := by simpa using hr
        generalize rankV o' x = r at *
        go_wp2_with fail
        refine M1.mono ?_
        rintro e y ⟨rfl, rfl⟩
        go_wp2
        go_roundw
        case rel => exact ⟨k + 1, ov', by omega, by go_num, by rw [Ht.out, e1]; exact hFr, hloc, hch⟩
        case measure => simp [intOf]; omega
    · obtain rfl : k = n := by omega
      rw [List.take_of_length_le (by rw [Hn.out]; omega)] at hFr
      go_wp2
      go_end0
      exact ⟨_, rfl, hFr, hloc, hch⟩

end Go.Proofs.YtbjmeibcphmgbaaGreat

namespace Go.Proofs.YtbjmeibcphmgbaaGreat
open Go.ChangeShapes Go.WideShapes Go.ChangeAt Go.RowKit

set_option linter.unusedSimpArgs false
set_option linter.unusedVariables false

set_option maxRecDepth 100000 in
theorem add_none (F mb B c : Nat) (a : Option Addr) (ov : Value) (o : List Int) (w : World) (hF : FoundAt B w F mb ov o) :
    Calls Tryz.prog 122 #[.pointer (some ⟨F, 0, none⟩), .slice a 0 c] w fun e w' => e = .returned (.tuple #[]) ∧ w = w' := by
  go_enter Tryz.func122, Tryz.ntmps122
  go_wp2
  go_loopw [8] (fun i wr => i = .int .i64 0 ∧ wr = w) (fun i _ => 0)
  case atStart => exact ⟨rfl, rfl⟩
  case round =>
    obtain ⟨rfl, rfl⟩ := hrel
    go_wp2
    go_end0
    exact ⟨rfl, rfl⟩

theorem add_off (F mb B : Nat) (ov v : Value) (o xs : List Int) (w : World) (hF : FoundAt B w F mb ov o) (hB : B ≤ w.heap.size) (hv : ReadsOff w v xs) (hlen : o.length + xs.length ≤ 1000000)
    (hxb : ∀ x ∈ xs, -9223372036854775808 ≤ x ∧ x ≤ 9223372036854775807) (hg : ∀ g, v.ownBlock = some g → ov.ownBlock ≠ some g) :
    Calls Tryz.prog 122 #[.pointer (some ⟨F, 0, none⟩), v] w fun e w' => ∃ ov', e = .returned (.tuple #[]) ∧ FoundAt B w' F mb ov' (addO o xs) ∧ Chg (AddS F mb ov) w w' := by
  by_cases h0 : xs = []
  · subst h0
    obtain ⟨a, c, rfl⟩ : ∃ a c, v = .slice a 0 c := by
      rcases hv.2 with ⟨_, c, rfl⟩ | ⟨g, oz, c, rfl, _⟩
      · exact ⟨_, _, rfl⟩
      · exact ⟨_, _, rfl⟩
    refine (add_none F mb B c a ov o w hF).mono ?_
    rintro e x ⟨rfl, rfl⟩
    exact ⟨ov, rfl, hF, Chg.refl _ _⟩
  · rcases hv.2 with ⟨h, _⟩ | ⟨g, oz, c, rfl, hc, hgl, hr⟩
    · exact absurd h h0
    · refine (add_some F mb B g oz c ov o xs w hF hB hc hlen hr hxb (hg g rfl) (List.length_pos_iff.2 h0)).mono ?_
      rintro e x ⟨ov', rfl, h1, _, h2⟩
      exact ⟨ov', rfl, h1, h2⟩


/-- Objects at the places V; of the one at x the strong pointers are G x, each 0 or one of the places. -/
structure Grph (P b : Nat) (l V : List Int) (G : Int → List Int) : Prop where
  strong : ∀ x ∈ V, ∀ y, ArenaAt 146 y P b l → Calls Tryz.prog 54 #[.pointer (some ⟨P, 0, none⟩), .int .i64 x] y fun e y' => ∃ sv, e = .returned (.tuple #[sv, .int .i64 0]) ∧
    y'.ownsRow y.heap.size 3 1 sv (G x).length ((G x).map (Value.int .i64)) ∧ Below y.heap.size y y'
  shut : ∀ x ∈ V, ∀ y ∈ G x, y = 0 ∨ y ∈ V
  nums : ∀ x ∈ V, 0 < x ∧ x ≤ 65536
  len : V.length ≤ 21000
  deg : ∀ x ∈ V, (G x).length ≤ 8
theorem Grph.bound {P b : Nat} {l V : List Int} {G : Int → List Int} (h : Grph P b l V G) {x : Int} (hx : x = 0 ∨ x ∈ V) : -9223372036854775808 ≤ x ∧ x ≤ 9223372036854775807 := by
  rcases hx with rfl | hx
  · omega
  · have := h.nums x hx; omega

theorem FoundAt.on {B F mb : Nat} {w x : World} {ov : Value} {o : List Int} (h : FoundAt B w F mb ov o) (hb : Below w.heap.size w x) : FoundAt B x F mb ov o :=
  ⟨h.blk.on hb, h.map.on hb, own_chg h.own (Chg.of_below (S := fun _ => False) hb (Nat.le_refl _)) (fun _ _ h => h)⟩
theorem FoundAt.addS {B F mb n : Nat} {w : World} {ov : Value} {o : List Int} (h : FoundAt B w F mb ov o) (h1 : n ≤ F) (h2 : n ≤ mb) (h3 : n ≤ B) {k : Nat} (hk : AddS F mb ov k) : n ≤ k := by
  rcases hk with rfl | rfl | hk
  · exact h1
  · exact h2
  · exact Nat.le_trans h3 (own_block h.own hk).1
theorem FoundAt.far {B F mb k : Nat} {w : World} {ov : Value} {o : List Int} {cs : Array Value} (h : FoundAt B w F mb ov o) (hk : BlkIs w k cs 125) (h1 : k ≠ F) : ¬ AddS F mb ov k := by
  rintro (rfl | rfl | e)
  · exact h1 rfl
  · obtain ⟨D, ⟨es, clock, hb', _⟩, _⟩ := h.map
    unfold BlkIs at hk
    rw [hb'] at hk
    injection hk with hk
    cases hk
  · obtain ⟨_, cur, hh⟩ := own_block h.own e
    unfold BlkIs at hk
    rw [hh] at hk
    injection hk with hk
    injection hk with _ hk
    exact absurd hk (by decide)

set_option maxRecDepth 100000 in
set_option maxHeartbeats 4000000 in
theorem reach_off (P b : Nat) (l V : List Int) (G : Int → List Int) (rv : Value) (roots : List Int) (w : World) (hG : Grph P b l V G) (hA : ArenaAt 146 w P b l) (hv : ReadsOff w rv roots)
    (hr : ∀ x ∈ roots, x = 0 ∨ x ∈ V) (hrl : roots.length ≤ 1000) :
    Calls Tryz.prog 95 #[.pointer (some ⟨P, 0, none⟩), rv] w fun e w' => ∃ mb ov, e = .returned (.tuple #[.agg #[ov, .map (some mb)], .int .i64 0]) ∧
      w'.ownsRow w.heap.size 3 1 ov (reachO G V.length roots).length ((reachO G V.length roots).map (Value.int .i64)) ∧ IMap w' mb (reachO G V.length roots).length (rk (reachO G V.length roots)) ∧ w.heap.size ≤ mb ∧ Below w.heap.size w w' := by
  have hmm := @run_makeMap Tryz.prog
  have hlt := hA.lt
  have hgb := fun g h => hv.block (g := g) h
  go_enter Tryz.func95, Tryz.ntmps95
  go_wp2_with fail
  have s1 : (w.alloc (.cells #[.slice none 0 0, .map none] 125)).heap.size = w.heap.size + 1 := by simp
  have s2 : ((w.alloc (.cells #[.slice none 0 0, .map none] 125)).alloc (.map #[] 0)).heap.size = w.heap.size + 2 := by simp
  have k4 := ((BlkIs.new w #[.slice none 0 0, .map none] 125).alloc (.map #[] 0)).alloc (.cells #[.slice none 0 0, .map (some (w.heap.size + 1))] 125)
  have k6 := BlkIs.new ((w.alloc (.cells #[.slice none 0 0, .map none] 125)).alloc (.map #[] 0)) #[.slice none 0 0, .map (some (w.heap.size + 1))] 125
  have km := (IMap.new (w.alloc (.cells #[.slice none 0 0, .map none] 125))).on ((Below.refl _ _).alloc (Nat.le_refl _) (.cells #[.slice none 0 0, .map (some (w.heap.size + 1))] 125))
  have hB := (((Below.refl w.heap.size w).alloc (Nat.le_refl _) (.cells #[.slice none 0 0, .map none] 125)).alloc (by omega) (.map #[] 0)).alloc (by omega) (.cells #[.slice none 0 0, .map (some (w.heap.size + 1))] 125)
  rw [s1] at km
  rw [s2] at k6
  generalize ((w.alloc (.cells #[.slice none 0 0, .map none] 125)).alloc (.map #[] 0)).alloc (.cells #[.slice none 0 0, .map (some (w.heap.size + 1))] 125) = x0 at *
  have hF : FoundAt w.heap.size x0 (w.heap.size + 2) (w.heap.size + 1) (.slice none 0 0) [] := ⟨k6, km, ⟨rfl, .inl ⟨rfl, rfl⟩⟩⟩
  have M1 := add_off (w.heap.size + 2) (w.heap.size + 1) w.heap.size _ rv [] roots x0 hF hB.size (hv.below hB) (by simp; omega) (fun x hx => hG.bound (hr x hx)) (fun g h1 h2 => by simp [Value.ownBlock] at h2)
  have hf4 := hF.far k4 (by omega)
  have hS0 : ∀ k, AddS (w.heap.size + 2) (w.heap.size + 1) (.slice none 0 0) k → w.heap.size ≤ k := fun k => hF.addS (by omega) (by omega) (Nat.le_refl _)
  refine M1.mono ?_
  rintro e x1 ⟨ov, rfl, hF1, hc⟩
  clear M1 km k6 hF s1 s2
  replace k4 := k4.chg hc hf4
  replace hB := hB.trans (hc.below hS0 hB.size)
  have hI := inv_start (G := G) (V := V) (r := roots) hr
  have hR0 : goO G (V.length - 0) (addO [] roots) 0 = reachO G V.length roots := rfl
  clear hS0 hf4 hc hgb hv hr hrl x0
  generalize addO [] roots = o0 at *
  go_wp2
  obtain ⟨B, hBw⟩ : ∃ B, w.heap.size = B := ⟨_, rfl⟩
  rw [hBw] at k4 hB hF1 hlt ⊢
  obtain ⟨F, hFe⟩ : ∃ F, B + 2 = F := ⟨_, rfl⟩
  obtain ⟨mb, hme⟩ : ∃ m, B + 1 = m := ⟨_, rfl⟩
  have hFe' : B + 1 + 1 = F := hFe
  rw [hFe, hme] at hF1
  rw [hFe', hme]
  have HV := Lib.hid (show w.heap.size = B ∧ B + 2 = F ∧ B + 1 = mb from ⟨hBw, hFe, hme⟩)
  clear hBw hFe hFe' hme
  go_loopw [7] (fun i wr => ∃ (k : Nat) (ov : Value) (o : List Int), i = .int .i64 k ∧ k ≤ V.length ∧ FoundAt B wr F mb ov o ∧ Inv G V roots o k ∧ goO G (V.length - k) o k = reachO G V.length roots ∧ BlkIs wr B #[.slice none 0 0, .map none] 125 ∧ Below B w wr) (fun i _ => V.length - (intOf i).toNat)
  case atStart => exact ⟨0, ov, o0, rfl, by omega, hF1, hI, hR0, k4, hB⟩
  case round =>
    clear hF1 hI hR0 k4 hB o0 ov
    obtain ⟨k, ov, o, rfl, hkV, hF, hI, hR, k4, hB⟩ := hrel
    have hoV := hI.len
    have hV8 := hG.len
    by_cases hlt2 : k < o.length
    · obtain ⟨g, cap, hov, hg0, hg1, hg2, hg3, hg4, hgc⟩ := own_cell hF.own (by omega)
      have hF0 : wr.cell? ⟨F, 0, none⟩ = some ov := hF.blk.cell 0
      have hx := hI.sub _ (getD_mem hlt2)
      have hgk := hgc k hlt2
      have hRn : goO G (V.length - (k + 1)) (addO o (G (o.getD k 0))) (k + 1) = reachO G V.length roots := by
        rw [← hR, show V.length - k = (V.length - (k + 1)) + 1 from by omega]
        show _ = if k < o.length then _ else _
        rw [if_pos hlt2]
      have hIn := hI.step hlt2 hG.shut
      generalize o.getD k 0 = x at *
      have hxb := hG.nums x hx
      have hwl : w.heap.size ≤ wr.heap.size := by have := hB.size; omega
      have M1 := hG.strong x hx wr (hA.below hB (by omega) (by omega))
      have j0 : (0 : Int) ≤ (k : Int) := by omega
      have j1 : (k : Int) < (o.length : Int) := by omega
      have hov' := Lib.hid hov
      rw [hov] at hF0
      have hol : o.length ≤ 21000 := by omega
      clear hgc hov
      go_wp2_with fail
      refine M1.mono ?_
      rintro e x2 ⟨sv, rfl, hsv, hb2⟩
      clear M1 hF0 hgk
      have hF2 := hF.on hb2
      have M2 := add_off F mb B ov sv o (G x) x2 hF2 (by have := hb2.size; have := HV.out; omega) (readsAs_of_owns hsv).off (by have := hG.deg x hx; omega) (fun y hy => hG.bound (hG.shut x hx y hy)) (fun g' h1 h2 => by
        obtain ⟨h3, _⟩ := own_block hsv h1.symm
        obtain ⟨_, cur, hh⟩ := own_block hF.own h2.symm
        have := (Array.getElem?_eq_some_iff.1 hh).1
        omega)
      have k42 := k4.on hb2
      have hB2 := hB.trans (hb2.mono (by have := HV.out; omega))
      have hf4 := hF2.far k42 (by have := HV.out; omega)
      have hS0 : ∀ k, AddS F mb ov k → B ≤ k := fun k => hF2.addS (by have := HV.out; omega) (by have := HV.out; omega) (Nat.le_refl _)
      clear hsv hF hb2
      go_wp2_with fail
      refine M2.mono ?_
      rintro e x3 ⟨ov3, rfl, hF3, hc3⟩
      clear M2 hF2
      go_wp2
      go_roundw
      case rel => exact ⟨k + 1, ov3, _, by go_num, by omega, hF3, hIn, hRn, k42.chg hc3 hf4, hB2.trans (hc3.below hS0 (by have := hB2.size; have := HV.out; omega))⟩
      case measure => simp [intOf]; omega
    · obtain ⟨oa, oc, hov⟩ := own_slice hF.own
      have hF0 : wr.cell? ⟨F, 0, none⟩ = some ov := hF.blk.cell 0
      have hF1 : wr.cell? ⟨F, 1, none⟩ = some (.map (some mb)) := hF.blk.cell 1
      have h40 : wr.cell? ⟨B, 0, none⟩ = some (.slice none 0 0) := k4.cell 0
      have h41 : wr.cell? ⟨B, 1, none⟩ = some (.map none) := k4.cell 1
      have g0 := k4.free 0
      have g1 := k4.free 1
      rw [hov] at hF0
      rw [goO_end (by omega)] at hR
      subst hR
      have hown := hF.own
      rw [hov] at hown
      go_wp2
      have hE := (k4.set 0 (.slice oa (reachO G V.length roots).length oc)).set 1 (.map (some mb))
      have e0 := hE.cell 0
      have e1 := hE.cell 1
      refine bodyPost_ret (v := .tuple #[.agg #[.slice oa (reachO G V.length roots).length oc, .map (some mb)], .int .i64 0]) ?_ rfl ⟨mb, _, rfl, ?_, ?_, by have := HV.out; omega, ?_⟩
      · simp [results, Tryz.f95, go_sem, e0, e1]
      · have hc : Chg (· = B) wr ((wr.setCell ⟨B, 0, none⟩ (.slice oa (reachO G V.length roots).length oc)).setCell ⟨B, 1, none⟩ (.map (some mb))) := ((Chg.refl (· = B) wr).setCell (p := ⟨B, 0, none⟩) (.inl rfl) _).setCell (p := ⟨B, 1, none⟩) (.inl rfl) _
        refine ⟨hown.1, hown.2.imp id ?_⟩
        rintro ⟨g, cap, cur, e, hb, hh, r⟩
        refine ⟨g, cap, cur, e, by have := HV.out; omega, (hc.block g (Array.getElem?_eq_some_iff.1 hh).1 fun e => ?_).trans hh, r⟩
        subst e
        unfold BlkIs at k4
        rw [hh] at k4
        injection k4 with k4
        injection k4 with _ k4
        exact absurd k4 (by decide)
      · exact hF.map.chg (S := (· = B)) (((Chg.refl (· = B) wr).setCell (p := ⟨B, 0, none⟩) (.inl rfl) _).setCell (p := ⟨B, 1, none⟩) (.inl rfl) _) (by have := HV.out; omega)
      · have hwB := HV.out.1
        rw [hwB]
        exact (hB.setCell (p := ⟨B, 0, none⟩) (Nat.le_refl _) _).setCell (p := ⟨B, 1, none⟩) (Nat.le_refl _) _


end Go.Proofs.YtbjmeibcphmgbaaGreat
