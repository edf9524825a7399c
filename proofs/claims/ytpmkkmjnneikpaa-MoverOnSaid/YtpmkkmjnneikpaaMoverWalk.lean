/- Package mover: the iterator 'objects' tells the places of objects that stand one behind the other, and Walk hands them back in new memory. Condition: the space is right, its words are those of these objects, and none of them is gone. -/
import Derived.Test.YtpmkkmjnneikpaaRowObs
import Derived.Test.YtpmkkmjnneikpaaKpB
import Derived.Test.YtpmkkmjnneikpaaOwnRow
import Derived.Test.YtpmkkmjnneikpaaRound
import Derived.Shelf.Abstract
import Derived.Shelf.RegionOpen
import Derived.OwnWalkIn
import Derived.TacticsInMore
import Derived.LoopNIn
import Derived.LoopIn
import Derived.Deep.DeepAppendWide
import Derived.Maps.AppendAt
namespace Go.Proofs.Ytpmkkmjnneikpaa
open Go.RowKit Go.Shelf

set_option linter.unusedSimpArgs false
set_option linter.unusedVariables false
attribute [local go_sem] Oper.semAt_some

theorem ArenaAt.kpB {n₁ : Nat} {S : Nat → Prop} {A C : World} {P b : Nat} {l : List Int} (h : ArenaAt 59 A P b l) (g : KpB n₁ S A C) (hP : P < n₁ ∧ ¬ S P) (hb : b < n₁ ∧ ¬ S b) : ArenaAt 59 C P b l :=
  ⟨(g.2 P hP.1 hP.2).trans h.head, (g.2 b hb.1 hb.2).trans h.row, h.len, h.fits⟩

abbrev encPlace (x : Nat) : Array Value := #[.int .i64 (x : Int)]

set_option maxRecDepth 100000 in
set_option maxHeartbeats 2000000 in
theorem objects1_in (n : Nat) (hn1 : 1 ≤ n) (y Bs Ba n₁ P b B z m : Nat) (l : List Int) (os : Nat → Ob) (S : Nat → Prop) (hs : SpOk B z (B + off os m)) (ho : ObsAt l B os m)
    (hP : P < n₁ ∧ ¬ S P) (hb : b < n₁ ∧ ¬ S b) (hBs : Bs < n₁ ∧ ¬ S Bs) (hBa : Ba < n₁ ∧ ¬ S Ba)
    (J Jx : List Nat → World → Prop) (W : World) (hn : n₁ ≤ W.heap.size) (hJ : AbidesFrom W.heap.size J) (H : ArenaAt 59 W P b l)
    (hY : ∀ pre x W1, J pre W1 → pre.length < m → YieldAt Fence.wide (n - 1) Try.prog y (encPlace x) W1 fun e W' =>
      (e = .returned (.bool true) ∧ J (pre ++ [x]) W' ∧ KpB n₁ S W1 W') ∨ (e = .returned (.bool false) ∧ Jx (pre ++ [x]) W'))
    (hcs : BlkIs W Bs #[.int .i64 B, .int .i64 z, .int .i64 (B + off os m : Nat)] 36) (hca : W.cell? ⟨Ba, 0, none⟩ = some (.pointer (some ⟨P, 0, none⟩))) (h0 : J [] W) :
    CallsIn Fence.wide n Try.prog 55 #[.func (.yield y) #[] #[], .pointer (some ⟨Bs, 0, none⟩), .pointer (some ⟨Ba, 0, none⟩)] W fun e W' => (∃ v, e = .returned v) ∧
      ((∃ xs : List Nat, xs = plc os B m ∧ J xs W') ∨ (∃ pre, True ∧ Jx pre W')) := by
  have hfH : Fence.wide.fn 56 := trivial
  have hfT : Fence.wide.fn 57 := trivial
  have s1 := hs.base
  have s2 := hs.size
  have s3 := hs.high
  obtain ⟨⟨q0, q1, q2⟩, _⟩ := blk3 hcs
  have hH := fun k : Nat => fun hk : k ≤ m => has_ok B z (B + off os m) (B + off os k) hs (by have := off_mono os hk; omega)
  have hH1 : ∀ k, k < m → ∀ w, Calls Try.prog 56 #[spV B z (B + off os m), .int .i64 (B + off os k : Nat)] w fun e w' => e = .returned (.bool true) ∧ Below w.heap.size w w' := fun k hk w => by
    have := hH k (by omega) w
    rw [decide_eq_true (show B ≤ B + off os k ∧ B + off os k < B + off os m by have := off_lt os hk; omega)] at this
    exact this
  have hH2 : ∀ w, Calls Try.prog 56 #[spV B z (B + off os m), .int .i64 (B + off os m : Nat)] w fun e w' => e = .returned (.bool false) ∧ Below w.heap.size w w' := fun w => by
    have := hH m (by omega) w
    rw [decide_eq_false (show ¬ (B ≤ B + off os m ∧ B + off os m < B + off os m) by omega)] at this
    exact this
  have HO := Lib.hid ho
  have H1 := Lib.hid hH1
  have H2 := Lib.hid hH2
  have ht : B + off os m ≤ 131072 := by omega
  obtain ⟨t, et⟩ : ∃ t, B + off os m = t := ⟨_, rfl⟩
  have Et := Lib.hid et
  rw [et] at H1 H2 hcs q2 ht hs
  clear hH hH1 hH2 ho s3 et hs
  refine callsIn_of_wp Try.func55 rfl trivial ?_ rfl
  simp only [Try.ntmps55, List.size_toArray, List.length_cons, List.length_nil, Nat.reduceAdd, Nat.reduceSub, Array.replicate_succ, Array.replicate_zero, List.push_toArray, List.append_toArray, List.nil_append, List.cons_append]
  gi_wp2
  gi_loopw [4] (fun at' wr => ∃ (k : Nat) (pre : List Nat), k ≤ m ∧ at' = .int .i64 (B + off os k : Nat) ∧ Hid (pre = plc os B k) ∧ J pre wr ∧ KpB n₁ S W wr)
    (fun at' _ => t - (intOf at').toNat)
  case atStart => exact ⟨0, [], Nat.zero_le _, rfl, Lib.hid rfl, h0, KpB.refl _ _ _⟩
  case round =>
    obtain ⟨k, pre, hk, rfl, Hpre, hJs, hkp⟩ := hrel
    have hcs1 : BlkIs wr Bs #[.int .i64 B, .int .i64 z, .int .i64 t] 36 := (hkp.2 Bs hBs.1 hBs.2).trans hcs
    have ca := (hkp.cell (p := ⟨Ba, 0, none⟩) hBa.1 hBa.2).trans hca
    obtain ⟨⟨c0, c1, c2⟩, _⟩ := blk3 hcs1
    have hA := H.kpB hkp hP hb
    have hsz := hkp.1
    by_cases hlt : k < m
    · have Hk := H1.out k hlt
      have o := HO.out k hlt
      have hstep : off os k + Cls.rd (os k).n = off os (k + 1) := rfl
      have hle := off_mono os (show k + 1 ≤ m from hlt)
      have hlt2 := off_lt os hlt
      have hpl : pre.length < m := by rw [Hpre.out, plc_length]; exact hlt
      have HT := fun x (hx : ArenaAt 59 x P b l) => taken_at (B + off os k) x hx o
      have Hsn := Lib.hid (plc_snoc os B k)
      rw [show 3 + (os k).p + (os k).d = (os k).n from rfl] at HT
      have het := Et.out
      clear o
      obtain ⟨u, hu⟩ : ∃ u, B + off os k = u := ⟨_, rfl⟩
      obtain ⟨u', hu'⟩ : ∃ u, B + off os (k + 1) = u := ⟨_, rfl⟩
      have i1 : IntKind.i64.wrap ((u : Int) + (Cls.rd (os k).n : Int)) = (u' : Int) := by rw [IntWalk.i64_in _ (by omega)]; omega
      have hut : u < t := by omega
      have huu : u < u' := by have := rd_pos (os k).n; omega
      have hu't : u' ≤ t := by omega
      have HU := Lib.hid hu'
      rw [hu] at Hk HT Hsn ⊢
      generalize Cls.rd (os k).n = r at *
      clear hu hu' hle hlt2 hstep het
      gi_wp2_with fail
      refine (callsIn_wide.2 (Hk _)).mono ?_
      rintro e x1 ⟨rfl, hb1⟩
      have ca1 := (hb1.cell (p := ⟨Ba, 0, none⟩) (by show Ba < _; omega)).trans ca
      clear c0 c1 c2
      gi_wp2_with fail
      refine (callsIn_wide.2 (HT _ (hA.below hb1 hA.lt.1 hA.lt.2))).mono ?_
      rintro e x2 ⟨rfl, hb2⟩
      replace hb1 := hb1.trans (hb2.mono hb1.size)
      clear hb2 ca ca1 x1
      have hg : wr.grownBy x2 none := ⟨hb1.os, hb1.tape, hb1.output, hb1.size, fun i hi _ => hb1.block i hi⟩
      have hJ2 := hJ pre wr x2 none hJs hg (fun r e => by cases e)
      obtain ⟨fn, tmps, assign, body, hy, hR⟩ := hY pre u x2 hJ2 hpl
      dsimp only [encPlace] at hy
      gi_wp2
      refine hR.mono ?_
      rintro e W3 (⟨rfl, hJ3, hk3⟩ | ⟨rfl, hJx3⟩)
      · gi_wp2
        exact ⟨⟨k + 1, pre ++ [u], by omega, by rw [HU.out], Lib.hid (by rw [Hpre.out]; exact Hsn.out), hJ3, hkp.trans ((KpB.of_below (hb1.mono (by omega))).trans hk3)⟩, by simp [intOf]; omega⟩
      · gi_wp2
        refine bodyPost_ret (results_none rfl _ _ _) rfl ?_
        exact ⟨⟨_, rfl⟩, .inr ⟨_, trivial, hJx3⟩⟩
    · obtain rfl : k = m := by omega
      rw [Et.out]
      gi_wp2_with fail
      refine (callsIn_wide.2 (H2.out _)).mono ?_
      rintro e x1 ⟨rfl, hb1⟩
      have hg : wr.grownBy x1 none := ⟨hb1.os, hb1.tape, hb1.output, hb1.size, fun i hi _ => hb1.block i hi⟩
      have hJ2 := hJ pre wr x1 none hJs hg (fun r e => by cases e)
      gi_wp2
      go_end0
      exact ⟨⟨_, rfl⟩, .inl ⟨_, Hpre.out, hJ2⟩⟩

theorem objects_any (n P : Nat) (B z t : Nat) (w : World) :
    CallsIn Fence.wide n Try.prog 35 #[.pointer (some ⟨P, 0, none⟩), spV B z t] w fun e w' => e = .returned (.func (.func 55) #[] #[.pointer (some ⟨w.heap.size + 1, 0, none⟩), .pointer (some ⟨w.heap.size, 0, none⟩)]) ∧
      w' = (w.alloc (.cells #[.pointer (some ⟨P, 0, none⟩)] 24)).alloc (.cells #[.int .i64 B, .int .i64 z, .int .i64 t] 36) := by
  refine callsIn_of_wp Try.func35 rfl trivial ?_ rfl
  simp only [Try.ntmps35, List.size_toArray, List.length_cons, List.length_nil, Nat.reduceAdd, Nat.reduceSub, Array.replicate_succ, Array.replicate_zero, List.push_toArray, List.append_toArray, List.nil_append, List.cons_append]
  gi_wp2
  go_ret
  exact ⟨rfl, rfl⟩

theorem objects_stops (n : Nat) (hn1 : 1 ≤ n) (Bs Ba n₁ P b B z m : Nat) (l : List Int) (os : Nat → Ob) (S : Nat → Prop) (hs : SpOk B z (B + off os m)) (ho : ObsAt l B os m)
    (hP : P < n₁ ∧ ¬ S P) (hb : b < n₁ ∧ ¬ S b) (hBs : Bs < n₁ ∧ ¬ S Bs) (hBa : Ba < n₁ ∧ ¬ S Ba) (w : World) (hn : n₁ ≤ w.heap.size) (H : ArenaAt 59 w P b l)
    (hcs : BlkIs w Bs #[.int .i64 B, .int .i64 z, .int .i64 (B + off os m : Nat)] 36) (hca : w.cell? ⟨Ba, 0, none⟩ = some (.pointer (some ⟨P, 0, none⟩))) :
    SeqStopsK Fence.wide n Try.prog 55 #[.pointer (some ⟨Bs, 0, none⟩), .pointer (some ⟨Ba, 0, none⟩)] encPlace (KpB n₁ S) (fun xs => xs = plc os B m) (fun _ => True) m w := fun y J Jx W hW hJ _ hY h0 => by
  have hs' := hW.size
  exact objects1_in n hn1 y Bs Ba n₁ P b B z m l os S hs ho hP hb hBs hBa J Jx W (by omega) hJ (H.below hW (by omega) (by omega)) hY (hcs.below hW (by omega)) ((hW.cell (p := ⟨Ba, 0, none⟩) (by show Ba < _; omega)).trans hca) h0

theorem own_mono {w : World} {base base' : Nat} {e : TypeId} {size : Nat} {v : Value} {n : Nat} {xs : List Value} (h : w.ownsRow base e size v n xs) (hb : base' ≤ base) : w.ownsRow base' e size v n xs :=
  ⟨h.1, h.2.imp id fun ⟨g, cap, cur, e1, e2, r⟩ => ⟨g, cap, cur, e1, Nat.le_trans hb e2, r⟩⟩
/-- An append to a row of one's own that stands in a box: what lay below n₁, but for the box, is as it was. -/
theorem appended_kpB {W w1 : World} {n₁ B : Nat} {t e : TypeId} {size : Nat} {v v' : Value} {k m : Nat} {xs ys : List Value} {tmp : Obj}
    (hv : Boxed W B t v) (hte : t ≠ e) (hrow : W.ownsRow n₁ e size v k xs) (hn₁ : n₁ ≤ W.heap.size) (hB : B < n₁) (hown' : w1.ownsRow n₁ e size v' m ys) (hgrow : (W.alloc tmp).grownBy w1 v.ownBlock) :
    Boxed w1 B t v ∧ Boxed (w1.setCell ⟨B, 0, none⟩ v') B t v' ∧ (w1.setCell ⟨B, 0, none⟩ v').ownsRow n₁ e size v' m ys ∧ KeepsOthers W (w1.setCell ⟨B, 0, none⟩ v') ∧ Below B W (w1.setCell ⟨B, 0, none⟩ v') ∧ KpB n₁ (fun k => k = B) W (w1.setCell ⟨B, 0, none⟩ v') := by
  obtain ⟨h1, h2, h3, h4, h5⟩ := Boxed.appended (n₀ := B) hv hte (own_mono hrow (by omega)) (by omega) (Nat.le_refl _) (own_mono hown' (by omega)) hgrow
  refine ⟨h1, h2, ?_, h4, h5, h5.size, fun c hc hne => ?_⟩
  · refine hown'.kept (grownBy_setCell' w1 B v') (.inr fun e => ?_)
    rcases hown'.2 with ⟨rfl, _⟩ | ⟨g, cap, cur, rfl, hb, _⟩
    · simp [Value.ownBlock] at e
    · simp [Value.ownBlock] at e; omega
  · rw [Below.heap_setCell _ _ _ _ hne]
    refine (hgrow.block c (by simp; omega) fun e => ?_).trans (Below.heap_alloc _ _ _ (by omega))
    rcases hrow.2 with ⟨rfl, _⟩ | ⟨g, cap, cur, rfl, hb, _⟩
    · simp [Value.ownBlock] at e
    · simp [Value.ownBlock] at e; omega

theorem infoInt : (Try.prog.info? 3).map (fun i => (i.zero, i.size, i.bytes)) = some (some (.int .i64 0), 1, 8) := by kernel_rfl
def valsN (l : List Nat) : List Value := l.map fun x : Nat => Value.int .i64 (x : Int)
theorem valsN_snoc (l : List Nat) (x : Nat) : valsN l ++ [.int .i64 x] = valsN (l ++ [x]) := by unfold valsN; simp

set_option maxRecDepth 100000 in
set_option maxHeartbeats 4000000 in
theorem walk_any (P b B z m : Nat) (l : List Int) (os : Nat → Ob) (w : World) (hs : SpOk B z (B + off os m)) (ho : ObsAt l B os m) (H : ArenaAt 59 w P b l) :
    Calls Try.prog 16 #[.pointer (some ⟨P, 0, none⟩), spV B z (B + off os m)] w fun e w' => ∃ sv, e = .returned sv ∧ w'.ownsRow w.heap.size 3 1 sv m (valsN (plc os B m)) ∧ Below w.heap.size w w' := by
  have hfF : Fence.wide.fn 35 := trivial
  have hm : m ≤ 65536 := by have := off_ge os m; have := hs.high; have := hs.size; omega
  obtain ⟨hPl, hbl⟩ := H.lt
  have hO := fun n w => objects_any n P B z (B + off os m) w
  obtain ⟨t, et⟩ : ∃ t, B + off os m = t := ⟨_, rfl⟩
  have Et := Lib.hid et
  rw [et] at hO ⊢
  clear et
  refine (callsIn_wide (n := 9)).1 ?_
  refine callsIn_of_wp_marks Try.func16 rfl trivial ?_ rfl
  simp only [Try.ntmps16, List.size_toArray, List.length_cons, List.length_nil, Nat.reduceAdd, Nat.reduceSub, Array.replicate_succ, Array.replicate_zero, List.push_toArray, List.append_toArray, List.nil_append, List.cons_append]
  gi_wp2_with (gi_at_call 35; refine (hO _ _).mono ?_; rintro e w' ⟨rfl, rfl⟩)
  obtain ⟨i0, hi, hz0, hz1, hz2⟩ := info_parts infoInt
  have bL := ((Boxed.new (w.alloc (.cells #[.int .i64 B, .int .i64 z, .int .i64 t] 36)) 28 (.slice none 0 0)).alloc (.cells #[.pointer (some ⟨P, 0, none⟩)] 24)).alloc (.cells #[.int .i64 B, .int .i64 z, .int .i64 t] 36)
  have bA := (Boxed.new ((w.alloc (.cells #[.int .i64 B, .int .i64 z, .int .i64 t] 36)).alloc (.cells #[.slice none 0 0] 28)) 24 (.pointer (some ⟨P, 0, none⟩))).alloc (.cells #[.int .i64 B, .int .i64 z, .int .i64 t] 36)
  have bS := BlkIs.new (((w.alloc (.cells #[.int .i64 B, .int .i64 z, .int .i64 t] 36)).alloc (.cells #[.slice none 0 0] 28)).alloc (.cells #[.pointer (some ⟨P, 0, none⟩)] 24)) #[.int .i64 B, .int .i64 z, .int .i64 t] 36
  simp only [World.size_alloc] at bL bA bS
  have hB0 : Below w.heap.size w ((((w.alloc (.cells #[.int .i64 B, .int .i64 z, .int .i64 t] 36)).alloc (.cells #[.slice none 0 0] 28)).alloc (.cells #[.pointer (some ⟨P, 0, none⟩)] 24)).alloc (.cells #[.int .i64 B, .int .i64 z, .int .i64 t] 36)) :=
    ((((Below.refl _ w).alloc (Nat.le_refl _) _).alloc (by simp) _).alloc (by simp; omega) _).alloc (by simp; omega) _
  have hsz : ((((w.alloc (.cells #[.int .i64 B, .int .i64 z, .int .i64 t] 36)).alloc (.cells #[.slice none 0 0] 28)).alloc (.cells #[.pointer (some ⟨P, 0, none⟩)] 24)).alloc (.cells #[.int .i64 B, .int .i64 z, .int .i64 t] 36)).heap.size = w.heap.size + 4 := by simp
  obtain ⟨W0, hW0⟩ : ∃ W0, (((w.alloc (.cells #[.int .i64 B, .int .i64 z, .int .i64 t] 36)).alloc (.cells #[.slice none 0 0] 28)).alloc (.cells #[.pointer (some ⟨P, 0, none⟩)] 24)).alloc (.cells #[.int .i64 B, .int .i64 z, .int .i64 t] 36) = W0 := ⟨_, rfl⟩
  rw [hW0] at bL bA bS hB0 hsz ⊢
  clear hW0
  have H0 := H.below hB0 hPl hbl
  clear H
  have HS := objects_stops 8 (by omega) (w.heap.size + 1 + 1 + 1) (w.heap.size + 1 + 1) (w.heap.size + 4) P b B z m l os (fun k => k = w.heap.size + 1) hs ho ⟨by omega, by omega⟩ ⟨by omega, by omega⟩ ⟨by omega, by omega⟩ ⟨by omega, by omega⟩ W0 (by omega) H0 (by rw [Et.out]; exact bS) bA.cell
  refine wpIn_rangeFunc_ownH rfl (by omega) (gf := 55) (lb := #[.pointer (some ⟨w.heap.size + 1 + 1 + 1, 0, none⟩), .pointer (some ⟨w.heap.size + 1 + 1, 0, none⟩)]) rfl trivial (enters_of Try.func55 (by kernel_rfl) rfl)
    HS KpB.trans (fun W l o o' hl h hc hw => KpB.putObj W l o' (by omega)) (Below.refl _ _) (fun _ => rfl)
    (fun pre W => (∃ sv, Boxed W (w.heap.size + 1) 28 sv ∧ W.ownsRow (w.heap.size + 4) 3 1 sv pre.length (valsN pre) ∧ True) ∧ Below (w.heap.size + 1) W0 W)
    (fun _ _ _ => False)
    (OwnFrom.and (Own.from (holdsRow_own _ _ _ _ _ List.length valsN (fun _ _ => True)) _) (ownFrom_below (by omega) (by omega)))
    (fun c => fun _ _ _ _ h => h.elim)
    ⟨⟨_, bL, World.ownsRow_nil _ _ _ _, trivial⟩, Below.refl _ _⟩
    (fun x a' _ => a' = { tmps := #[.pointer (some ⟨P, 0, none⟩), spV B z t, undef, .pointer (some ⟨w.heap.size, 0, none⟩), .slice none 0 0, .pointer (some ⟨w.heap.size + 1, 0, none⟩), .int .i64 (x : Int), .pointer (some ⟨P, 0, none⟩), .agg #[.int .i64 B, .int .i64 z, .int .i64 t],
      .func (.func 55) #[] #[.pointer (some ⟨w.heap.size + 1 + 1 + 1, 0, none⟩), .pointer (some ⟨w.heap.size + 1 + 1, 0, none⟩)], .int .i64 (x : Int), undef, undef, undef, undef, undef], defers := [] })
    (fun x a' _ X Y row hs hg hr => hs)
    ?assign ?body ?done ?stop
  case assign =>
    rintro l pre x W K hI hK
    gi_wp2
    exact hK _ _ (KeepsFrom.refl _ _) (KpB.refl _ _ _) hI rfl
  case body =>
    rintro l pre x a' W hl ⟨r, hr⟩ ⟨⟨sv, bL1, own, _⟩, hB1⟩ rfl hlt
    have hsW := hB1.size
    have f1 := bL1.frozen
    have c1 := bL1.cell
    gi_wp2_with (
      gi_at_builtin
      refine wpListIn_append_own _ rfl _ _ 28 rfl (w.heap.size + 4) 3 i0 (.int .i64 0) 1 8 Try.underlying28 hi hz0 hz1 hz2 rfl (by decide) _ _ _ rfl (own.alloc _) ⟨W.heap.size, 0, none⟩ 1 1 [.int .i64 (x : Int)] rfl rfl (cell_one_new _ _ _) (by simp [Value.oneCell']) (by unfold maxLen; omega) (by omega) (by simp; omega) ?_
      rintro v' V2 own2 hg2 -
      rw [valsN_snoc] at own2
      obtain ⟨g2, cap2, rfl⟩ := ownsRow_succ own2
      obtain ⟨c2, c3, own3, hk3, hB3, hp3⟩ := appended_kpB bL1 (by decide) own (by omega) (by omega) own2 hg2
      have a2 := c2.cell
      have f2 := c2.frozen
      )
    exact ⟨hk3.from _, hp3, ⟨_, c3, by rw [List.length_append]; exact own3, trivial⟩, hB1.trans hB3⟩
  case done =>
    rintro D xs W hD hxs ⟨⟨sv, bL1, own, _⟩, hB1⟩ hK
    have hsW := hB1.size
    have c1 := bL1.cell
    have hv : xs.length = m := by rw [hxs, plc_length]
    rw [hv, hxs] at own
    have hsl : ∃ a c, sv = .slice a m c := by
      rcases own.2 with ⟨rfl, h⟩ | ⟨g, cap, cur, rfl, _⟩
      · exact ⟨none, 0, by rw [h]⟩
      · exact ⟨_, _, rfl⟩
    obtain ⟨sa, sc, rfl⟩ := hsl
    gi_wp2
    refine ⟨by simp, .inl ⟨_, _, rfl, run_takeDeferred hK, ?_⟩⟩
    refine ⟨.slice sa m sc, ?_, _, rfl, own_mono (own.kept (grownBy_putObj' W D (.deferred none)) (.inr fun e => ?_)) (by omega), (hB0.trans (hB1.mono (by omega))).trans (belowK_b (w := w) (Nat.le_refl _) W D _ _ (by omega) hK rfl rfl)⟩
    · simp [results, Try.f16, go_sem]
    · rcases own.2 with ⟨h, _⟩ | ⟨g, cap, cur, h, _, hg, _⟩
      · cases h; simp [Value.ownBlock] at e
      · cases h
        simp [Value.ownBlock] at e
        rw [e, hK] at hg; cases hg
  case stop =>
    rintro D c' pre W hD _ h hK
    exact h.elim

end Go.Proofs.Ytpmkkmjnneikpaa
