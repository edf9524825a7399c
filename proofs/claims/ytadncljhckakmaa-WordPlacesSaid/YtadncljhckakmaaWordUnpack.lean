/- The contract of package word's Unpack: at right widths it hands back the numbers of a word that has no bit above them, and true; else nothing and false; and nothing that lay has turned. -/
import Derived.Test.YtadncljhckakmaaWordPack
import Derived.Deep.DeepAppendWide
import Derived.Maps.AppendAt
namespace Go.Proofs.Ytadncljhckakmaa
open Go.RowKit Go.Shelf

set_option linter.unusedSimpArgs false
set_option linter.unusedVariables false
attribute [local go_sem] Oper.semAt_some

def restOf (ds : List Nat) (v : Nat) (l : List (Fin ds.length)) : Int := ((Wd.rest ds v (l.map Fin.val) : Nat) : Int)
def numsOf (ds : List Nat) (v : Nat) (l : List (Fin ds.length)) : List Value := (Wd.nums ds v (l.map Fin.val)).map fun x : Nat => Value.int .u64 (x : Int)
theorem numsOf_snoc (ds : List Nat) (v : Nat) (l : List (Fin ds.length)) (x : Fin ds.length) :
    numsOf ds v (l ++ [x]) = numsOf ds v l ++ [.int .u64 ((Wd.get v (svOf ds x.1).toNat (dvOf ds x.1).toNat : Nat) : Int)] := by
  unfold numsOf svOf dvOf
  simp only [Int.toNat_natCast]
  rw [List.map_append, List.map_cons, List.map_nil, Wd.nums_snoc, List.map_append]
  rfl
theorem restOf_bounds (ds : List Nat) (v : Nat) (hv : v < 18446744073709551616) (l : List (Fin ds.length)) : 0 ≤ restOf ds v l ∧ restOf ds v l < 18446744073709551616 := by
  have := Wd.rest_lt ds v (l.map Fin.val) hv
  unfold restOf
  omega
theorem restOf_snoc (ds : List Nat) (v : Nat) (hv : v < 18446744073709551616) (hs : ds.sum ≤ 64) (l : List (Fin ds.length)) (x : Fin ds.length) :
    bits .andNot .u64 (restOf ds v l) ((Wd.mask (svOf ds x.1).toNat (dvOf ds x.1).toNat : Nat) : Int) = restOf ds v (l ++ [x]) := by
  unfold restOf svOf dvOf
  simp only [Int.toNat_natCast]
  rw [List.map_append, List.map_cons, List.map_nil, Wd.rest_snoc, u64_andNot_nat _ _ (Wd.rest_lt ds v _ hv) (Wd.mask_lt (by have := Wd.sh_in ds x.1; omega))]

/-- What Unpack hands back. -/
def UnpackPost (ds : List Nat) (v : Nat) (w : World) (e : Ending) (w' : World) : Prop :=
  ∃ sv, e = .returned (.tuple #[sv, .bool (decide (v < 2 ^ ds.sum))]) ∧ (v < 2 ^ ds.sum → w'.ownsRow w.heap.size 22 1 sv ds.length ((Wd.nums ds v (List.range ds.length)).map fun x : Nat => Value.int .u64 (x : Int))) ∧
    (¬ v < 2 ^ ds.sum → sv = .slice none 0 0) ∧ Below w.heap.size w w'

theorem infoU64 : (Try.prog.info? 22).map (fun i => (i.zero, i.size, i.bytes)) = some (some (.int .u64 0), 1, 8) := by kernel_rfl

/-- What the blocks of a call of Unpack hold between two rounds (z: the heap's size when it was called). -/
structure Upk (z : Nat) (ds : List Nat) (v : Nat) (y : World) (sv : Value) (pre : List (Fin ds.length)) (rest : Int) : Prop where
  row : Boxed y (z + 1 + 1 + 1) 34 sv
  own : y.ownsRow (z + 6) 22 1 sv pre.length (numsOf ds v pre)
  above : Boxed y (z + 1 + 1 + 1 + 1) 22 (.int .u64 rest)
  word : Boxed y z 22 (.int .u64 (v : Int))
  res : Boxed y (z + 1) 34 (.slice none 0 0)
  flag : Boxed y (z + 1 + 1) 4 (.bool false)

theorem Upk.grown {z : Nat} {ds : List Nat} {v : Nat} {A B : World} {sv : Value} {pre : List (Fin ds.length)} {rest : Int} (h : Upk z ds v A sv pre rest) (hg : A.grownBy B none) : Upk z ds v B sv pre rest :=
  ⟨h.row.kept hg (by simp), h.own.kept hg (by cases hv : sv.ownBlock <;> simp), h.above.kept hg (by simp), h.word.kept hg (by simp), h.res.kept hg (by simp), h.flag.kept hg (by simp)⟩
theorem grown_of_below {A B : World} (h : Below A.heap.size A B) : A.grownBy B none := ⟨h.os, h.tape, h.output, h.size, fun i hi _ => h.block i hi⟩
theorem grown_drew (A : World) : A.grownBy A.drew none := ⟨rfl, rfl, rfl, Nat.le_refl _, fun _ _ _ => rfl⟩
theorem own_block {w : World} {z : Nat} {e : TypeId} {sv : Value} {n : Nat} {xs : List Value} (h : w.ownsRow z e 1 sv n xs) (g : Nat) (hg : sv.ownBlock = some g) : z ≤ g ∧ ∃ cs, w.heap[g]? = some (.cells cs e (0, 0)) := by
  rcases h.2 with ⟨rfl, _⟩ | ⟨g', cap, cur, rfl, hb, hgg, _⟩
  · cases hg
  · obtain rfl : g' = g := by simpa [Value.ownBlock] using hg
    exact ⟨hb, cur, hgg⟩
/-- Behind an append onto the row, and the store of it. -/
theorem Upk.appended {z : Nat} {ds : List Nat} {v : Nat} {A B : World} {sv v' : Value} {pre : List (Fin ds.length)} {x : Fin ds.length} {rest : Int} (h : Upk z ds v A sv pre rest) (hg : A.grownBy B sv.ownBlock)
    (hown : B.ownsRow (z + 6) 22 1 v' (pre.length + 1) (numsOf ds v (pre ++ [x]))) :
    Boxed B (z + 1 + 1 + 1) 34 sv ∧ Boxed B z 22 (.int .u64 (v : Int)) ∧ Upk z ds v (B.setCell ⟨z + 1 + 1 + 1, 0, none⟩ v') v' (pre ++ [x]) rest := by
  have far : ∀ b, b < z + 6 → some b ≠ sv.ownBlock := fun b hb e => by have := (own_block h.own b e.symm).1; omega
  have b3 := h.row.kept hg (far _ (by omega))
  refine ⟨b3, h.word.kept hg (far _ (by omega)), b3.set v', ?_, (h.above.kept hg (far _ (by omega))).other (by omega) _, (h.word.kept hg (far _ (by omega))).other (by omega) _, (h.res.kept hg (far _ (by omega))).other (by omega) _, (h.flag.kept hg (far _ (by omega))).other (by omega) _⟩
  rw [List.length_append]
  exact ownsRow_setCell_below hown (by simp) _
theorem Upk.setRest {z : Nat} {ds : List Nat} {v : Nat} {A : World} {sv : Value} {pre : List (Fin ds.length)} {rest : Int} (h : Upk z ds v A sv pre rest) (r : Int) : Upk z ds v (A.setCell ⟨z + 1 + 1 + 1 + 1, 0, none⟩ (.int .u64 r)) sv pre r :=
  ⟨h.row.other (by omega) _, ownsRow_setCell_below h.own (by simp) _, h.above.set _, h.word.other (by omega) _, h.res.other (by omega) _, h.flag.other (by omega) _⟩

/-- A part in a block of its own. -/
def PartBox (y : World) (b : Nat) (s d : Int) : Prop := y.heap[b]? = some (.cells #[.int .i64 s, .int .i64 d] 26 (0, 0))
theorem PartBox.lt {y : World} {b : Nat} {s d : Int} (h : PartBox y b s d) : b < y.heap.size := (Array.getElem?_eq_some_iff.1 h).1
theorem PartBox.fst {y : World} {b : Nat} {s d : Int} (h : PartBox y b s d) : y.cell? ⟨b, 0, none⟩ = some (.int .i64 s) := by simp [World.cell?, show y.heap[b]? = _ from h]
theorem PartBox.snd {y : World} {b : Nat} {s d : Int} (h : PartBox y b s d) : y.cell? ⟨b, 1, none⟩ = some (.int .i64 d) := by simp [World.cell?, show y.heap[b]? = _ from h]
theorem PartBox.kept {A B : World} {row : Option Nat} {b : Nat} {s d : Int} (h : PartBox A b s d) (hg : A.grownBy B row) (hne : some b ≠ row) : PartBox B b s d := (hg.block b h.lt hne).trans h
theorem PartBox.not_row {A : World} {b z n : Nat} {s d : Int} {sv : Value} {xs : List Value} (h : PartBox A b s d) (hown : A.ownsRow z 22 1 sv n xs) : some b ≠ sv.ownBlock := fun e => by
  obtain ⟨_, cs, hc⟩ := own_block hown b e.symm
  rw [show A.heap[b]? = _ from h] at hc; cases hc
theorem PartBox.other {A : World} {b : Nat} {s d : Int} (h : PartBox A b s d) {p : Addr} (hp : p.block ≠ b) (u : Value) : PartBox (A.setCell p u) b s d := (Below.heap_setCell _ _ _ _ (by omega)).trans h

/-- What a round owes to the loop and to the iterator. -/
def Stp (z : Nat) (A B : World) : Prop := KeepsFrom (z + 6) A B ∧ Kp2 z (z + 6) A B
theorem Stp.refl (z : Nat) (A : World) : Stp z A A := ⟨KeepsFrom.refl _ _, Kp2.refl _ _ _⟩
theorem Stp.trans {z : Nat} {A B C : World} (h : Stp z A B) (k : Stp z B C) : Stp z A C := ⟨h.1.trans k.1, h.2.trans k.2⟩
theorem Stp.of_below {z : Nat} {A B : World} (hn : z ≤ A.heap.size) (h : Below A.heap.size A B) : Stp z A B := ⟨KeepsFrom.of_grownBy (grown_of_below h) (fun j e => by cases e), Kp2.of_below hn h⟩
theorem Stp.setCell {z : Nat} (A : World) {p : Addr} (h0 : z ≤ p.block) (h1 : p.block < z + 6) (u : Value) : Stp z A (A.setCell p u) := ⟨(KeepsOthers.setCell _ _ _).from _, Kp2.setCell _ h0 h1 u⟩
theorem Stp.grown {z : Nat} {A B : World} {sv : Value} {n : Nat} {xs : List Value} (hn : z ≤ A.heap.size) (hown : A.ownsRow (z + 6) 22 1 sv n xs) (hg : A.grownBy B sv.ownBlock) : Stp z A B := by
  refine ⟨(KeepsOthers.of_grownBy hg fun j o ej hj => ?_).from _, Kp2.grown hg hn fun g e => ?_⟩
  · obtain ⟨_, cs, hc⟩ := own_block hown j ej
    rw [hc] at hj; cases hj; rfl
  · obtain ⟨hb, cs, hc⟩ := own_block hown g e
    exact ⟨by omega, fun cs' hc' => by rw [hc] at hc'; cases hc'⟩

set_option maxRecDepth 100000 in
set_option maxHeartbeats 4000000 in
theorem unpack_any (ds : List Nat) (v : Nat) (hvb : v < 18446744073709551616) (hs : ds.sum ≤ 64) (h1 : ∀ d ∈ ds, 1 ≤ d) (hl64 : ds.length ≤ 64)
    (a : Option Addr) (ca : Nat) (w : World) (ha : IntsAt w.heap.size w (.slice a ds.length ca) ds.length (dvOf ds)) :
    Calls Try.prog 17 #[.slice a ds.length ca, .int .u64 (v : Int)] w (UnpackPost ds v w) := by
  have hfR : Fence.wide.fn 22 := trivial
  have hfS : Fence.wide.fn 14 := trivial
  have hfM : Fence.wide.fn 12 := trivial
  have hfP : Fence.wide.fn 24 := trivial
  obtain ⟨i0, hi, hz0, hz1, hz2⟩ := info_parts infoU64
  refine (callsIn_wide (n := 9)).1 ?_
  refine callsIn_of_wp_marks Try.func17 rfl trivial ?_ rfl
  simp only [Try.ntmps17, List.size_toArray, List.length_cons, List.length_nil, Nat.reduceAdd, Nat.reduceSub, Array.replicate_succ, Array.replicate_zero, List.push_toArray, List.append_toArray, List.nil_append, List.cons_append]
  gi_wp2_with (gi_at_call 24; refine (parts_any _ _ _ _ _).mono ?_; rintro e w' ⟨rfl, rfl⟩)
  have bV := (((((Boxed.new w 22 (.int .u64 (v : Int))).alloc (.cells #[.slice none 0 0] 34)).alloc (.cells #[.bool false] 4)).alloc (.cells #[.slice none 0 0] 34)).alloc (.cells #[.int .u64 (v : Int)] 22)).alloc (.cells #[.slice a ds.length ca] 33)
  have bR := ((((Boxed.new (w.alloc (.cells #[.int .u64 (v : Int)] 22)) 34 (.slice none 0 0)).alloc (.cells #[.bool false] 4)).alloc (.cells #[.slice none 0 0] 34)).alloc (.cells #[.int .u64 (v : Int)] 22)).alloc (.cells #[.slice a ds.length ca] 33)
  have bE := (((Boxed.new ((w.alloc (.cells #[.int .u64 (v : Int)] 22)).alloc (.cells #[.slice none 0 0] 34)) 4 (.bool false)).alloc (.cells #[.slice none 0 0] 34)).alloc (.cells #[.int .u64 (v : Int)] 22)).alloc (.cells #[.slice a ds.length ca] 33)
  have bL := ((Boxed.new (((w.alloc (.cells #[.int .u64 (v : Int)] 22)).alloc (.cells #[.slice none 0 0] 34)).alloc (.cells #[.bool false] 4)) 34 (.slice none 0 0)).alloc (.cells #[.int .u64 (v : Int)] 22)).alloc (.cells #[.slice a ds.length ca] 33)
  have bA := (Boxed.new ((((w.alloc (.cells #[.int .u64 (v : Int)] 22)).alloc (.cells #[.slice none 0 0] 34)).alloc (.cells #[.bool false] 4)).alloc (.cells #[.slice none 0 0] 34)) 22 (.int .u64 (v : Int))).alloc (.cells #[.slice a ds.length ca] 33)
  have bP := Boxed.new (((((w.alloc (.cells #[.int .u64 (v : Int)] 22)).alloc (.cells #[.slice none 0 0] 34)).alloc (.cells #[.bool false] 4)).alloc (.cells #[.slice none 0 0] 34)).alloc (.cells #[.int .u64 (v : Int)] 22)) 33 (.slice a ds.length ca)
  simp only [World.size_alloc] at bV bR bE bL bA bP
  have hB0 : Below w.heap.size w ((((((w.alloc (.cells #[.int .u64 (v : Int)] 22)).alloc (.cells #[.slice none 0 0] 34)).alloc (.cells #[.bool false] 4)).alloc (.cells #[.slice none 0 0] 34)).alloc (.cells #[.int .u64 (v : Int)] 22)).alloc (.cells #[.slice a ds.length ca] 33)) :=
    ((((((Below.refl _ w).alloc (Nat.le_refl _) _).alloc (by simp) _).alloc (by simp; omega) _).alloc (by simp; omega) _).alloc (by simp; omega) _).alloc (by simp; omega) _
  have hsz : ((((((w.alloc (.cells #[.int .u64 (v : Int)] 22)).alloc (.cells #[.slice none 0 0] 34)).alloc (.cells #[.bool false] 4)).alloc (.cells #[.slice none 0 0] 34)).alloc (.cells #[.int .u64 (v : Int)] 22)).alloc (.cells #[.slice a ds.length ca] 33)).heap.size = w.heap.size + 6 := by simp
  obtain ⟨W0, hW0⟩ : ∃ W0, (((((w.alloc (.cells #[.int .u64 (v : Int)] 22)).alloc (.cells #[.slice none 0 0] 34)).alloc (.cells #[.bool false] 4)).alloc (.cells #[.slice none 0 0] 34)).alloc (.cells #[.int .u64 (v : Int)] 22)).alloc (.cells #[.slice a ds.length ca] 33) = W0 := ⟨_, rfl⟩
  rw [hW0] at bV bR bE bL bA bP hB0 hsz ⊢
  clear hW0
  refine wpIn_rangeFunc_ownH rfl (by omega) (gf := 25) (lb := #[.pointer (some ⟨w.heap.size + 1 + 1 + 1 + 1 + 1, 0, none⟩)]) rfl trivial (enters_of Try.func25 (by kernel_rfl) rfl)
    (parts_stops 8 (by omega) (w.heap.size + 1 + 1 + 1 + 1 + 1) w.heap.size (w.heap.size + 6) ds.length _ (svOf ds) (dvOf ds) (by omega) (svOf_zero ds) (svOf_succ ds) (svOf_right ds hs h1) W0 (by omega) (by omega) (by omega) bP.cell (ha.below hB0))
    Kp2.trans (fun W l o o' hl h hc hw => Kp2.putObj (w := W0) (by omega) W l o o' hl h hc hw) (Below.refl _ _) (fun _ => rfl)
    (fun pre W => (∃ sv, Upk w.heap.size ds v W sv pre (restOf ds v pre)) ∧ Below w.heap.size W0 W)
    (fun _ _ _ => False)
    (OwnFrom.and (fun pre X Y row hu hg hr => by
      obtain ⟨sv, u⟩ := hu
      have far : ∀ b, b < w.heap.size + 6 → some b ≠ row := fun b hb e => by have := (hr b e.symm).1; omega
      refine ⟨sv, u.row.kept hg (far _ (by omega)), u.own.kept hg ?_, u.above.kept hg (far _ (by omega)), u.word.kept hg (far _ (by omega)), u.res.kept hg (far _ (by omega)), u.flag.kept hg (far _ (by omega))⟩
      cases hv : sv.ownBlock with
      | none => exact .inl rfl
      | some g =>
        refine .inr fun e => ?_
        obtain ⟨_, o, ho, hoc⟩ := hr g e.symm
        obtain ⟨_, cs, hc⟩ := own_block u.own g hv
        rw [hc] at ho; cases ho; cases hoc) (ownFrom_below (by omega) (by omega)))
    (fun _ _ _ _ _ hs _ _ => hs)
    ⟨⟨.slice none 0 0, bL, World.ownsRow_nil _ _ _ _, bA, bV, bR, bE⟩, Below.refl _ _⟩
    (fun x a' W => ∃ Bx, w.heap.size + 6 ≤ Bx ∧ PartBox W Bx (svOf ds x.1) (dvOf ds x.1) ∧ a' = { tmps := #[.slice a ds.length ca, .int .u64 (v : Int), undef, .pointer (some ⟨w.heap.size, 0, none⟩), .pointer (some ⟨w.heap.size + 1, 0, none⟩), .pointer (some ⟨w.heap.size + 1 + 1, 0, none⟩), .pointer (some ⟨w.heap.size + 1 + 1 + 1, 0, none⟩),
      .pointer (some ⟨w.heap.size + 1 + 1 + 1 + 1, 0, none⟩), undef, .pointer (some ⟨Bx, 0, none⟩), .int .u64 (v : Int), .slice a ds.length ca, .func (.func 25) #[] #[.pointer (some ⟨w.heap.size + 1 + 1 + 1 + 1 + 1, 0, none⟩)], .int .i64 (x.1 : Int), .agg #[.int .i64 (svOf ds x.1), .int .i64 (dvOf ds x.1)],
      undef, undef, undef, undef, undef, undef, undef, undef, undef, undef, undef, undef, undef, undef, undef, undef], defers := [] })
    (fun x a' _ X Y row hs hg hr => by obtain ⟨Bx, h1, h2, h3⟩ := hs; exact ⟨Bx, h1, h2.kept hg (fun e => by obtain ⟨_, o, ho, hoc⟩ := hr Bx e.symm; rw [show X.heap[Bx]? = _ from h2] at ho; cases ho; cases hoc), h3⟩)
    ?assign ?body ?done ?stop
  case assign =>
    rintro l pre x W K ⟨⟨sv, u⟩, hB1⟩ hK
    have hsW := hB1.size
    gi_wp2
    exact hK _ _ ((KeepsOthers.alloc _ _).from _) (Kp2.alloc W (by omega) _) ⟨⟨sv, u.grown (World.grownBy_alloc _ _ _)⟩, hB1.alloc (by omega) _⟩ ⟨W.heap.size, by omega, World.alloc_heap_new W _, rfl⟩
  case body =>
    rintro l pre x a' W hl ⟨r, hr⟩ ⟨⟨sv, u⟩, hB1⟩ ⟨Bx, hBx, bX, rfl⟩ hlt
    have hsW := hB1.size
    obtain ⟨q1, q2, q3⟩ := svOf_right ds hs h1 x.1 x.2
    have c1 := bX.fst
    have c2 := bX.snd
    gi_wp2_with (gi_at_call 22; refine (CallsIn.inRound l (callsIn_wide.2 (right_yes _ _ _ q1 q2 q3))).mono ?_; rintro e w2 ⟨rfl, hb2⟩)
    have u2 := u.grown (grown_of_below hb2)
    have bX2 := bX.kept (grown_of_below hb2) (by simp)
    have st2 : Stp w.heap.size W w2 := Stp.of_below (by omega) hb2
    have hs2 := hb2.size
    clear hb2 c1 c2
    refine region_round (fun y => PartBox y Bx (svOf ds x.1) (dvOf ds x.1) ∧ Boxed y w.heap.size 22 (.int .u64 (v : Int))) (by kernel_rfl) (by kernel_rfl) (fun ⟨_, _, h⟩ => h) ⟨bX2.kept (grown_drew _) (by simp), (u2.grown (grown_drew _)).word⟩ (fun hS => ?_)
    refine wpAnyH_take (i := 1) (v := ?_) rfl (by kernel_rfl) (by kernel_rfl) (by kernel_rfl) (fun _ _ _ h => h) (Or.inl ⟨by rfl, ?_⟩) hS ?_
    rotate_left
    · (intro y hy; obtain ⟨hy1, hy2⟩ := hy; have c1 := hy1.fst; have c2 := hy1.snd; have c3 := hy2.cell; go_simp; try with_reducible rfl)
    try simp only [Act.put, List.setIfInBounds_toArray, List.set_cons_zero, List.set_cons_succ]
    refine wpAnyH_take (i := 2) (v := ?_) rfl (by kernel_rfl) (by kernel_rfl) (by kernel_rfl) (fun _ _ _ h => h) (Or.inl ⟨by rfl, ?_⟩) hS ?_
    rotate_left
    · (intro y hy; obtain ⟨hy1, hy2⟩ := hy; have c1 := hy1.fst; have c2 := hy1.snd; have c3 := hy2.cell; go_simp; try with_reducible rfl)
    try simp only [Act.put, List.setIfInBounds_toArray, List.set_cons_zero, List.set_cons_succ]
    refine wpAnyH_ready (rs := [0, 3]) (by kernel_rfl) (by simp) ?_
    refine AllReadyH.cons (o := _) rfl (fun K hK => ?_) (AllReadyH.cons (o := _) rfl (fun K hK => ?_) AllReadyH.nil)
    · have c0 := (u2.grown (grown_drew _)).row.cell
      go_simp
      refine hK.out _ _ (hS) (fun hS => ?_)
      clear hK K
      try simp only [Act.put, List.setIfInBounds_toArray, List.set_cons_zero, List.set_cons_succ]
      refine wpAnyH_ready (rs := [3]) (by kernel_rfl) (by simp) ?_
      refine AllReadyH.cons (o := _) rfl (fun K hK => ?_) AllReadyH.nil
      go_simp
      refine (get_any _ _ _ _ (by omega) (by omega) q1 q2 q3).mono ?_
      rintro e w3 ⟨rfl, hb3⟩
      have u3 := (u2.grown (grown_drew _)).grown (grown_of_below hb3)
      have bX3 := (bX2.kept (grown_drew _) (by simp)).kept (grown_of_below hb3) (by simp)
      have st3 : Stp w.heap.size W w3 := st2.trans ((Stp.of_below (by omega) ((Below.refl _ w2).drew)).trans (Stp.of_below (by simp; omega) hb3))
      have hs3 : w2.heap.size ≤ w3.heap.size := hb3.size
      refine hK.out _ _ (⟨bX3, u3.word⟩) (fun hS => ?_)
      clear hK K
      try simp only [Act.put, List.setIfInBounds_toArray, List.set_cons_zero, List.set_cons_succ]
      -- the one number is laid, appended, and the slice stored
      refine wpAnyH_ready (rs := [4]) (by kernel_rfl) (by simp) ?_
      refine AllReadyH.cons (o := _) rfl (fun K hK => ?_) AllReadyH.nil
      go_simp
      refine hK.out _ _ (⟨bX3.kept (World.grownBy_alloc _ _ none) (by simp), u3.word.alloc _⟩) (fun hS => ?_)
      clear hK K
      try simp only [Act.put, List.setIfInBounds_toArray, List.set_cons_zero, List.set_cons_succ]
      refine wpAnyH_ready (rs := [5]) (by kernel_rfl) (by simp) ?_
      refine AllReadyH.cons (o := _) rfl (fun K hK => ?_) AllReadyH.nil
      rw [if_pos (by rfl)]
      refine wp_append_own_wide _ (.tmp 18) (.tmp 22) 34 rfl (w.heap.size + 6) 22 i0 (.int .u64 0) 1 8 Try.underlying34 hi hz0 hz1 hz2 rfl (by decide) sv pre.length _ rfl (u3.own.alloc _) ⟨w3.heap.size, 0, none⟩ 1 1 [.int .u64 _] rfl rfl (cell_one_new _ _ _) (by simp [Value.oneCell']) (by unfold maxLen; omega) (by omega) (by simp; omega) ?_
      intro v' w4 hown4 hgrow4 _
      rw [← numsOf_snoc] at hown4
      obtain ⟨g4, cap4, rfl⟩ := ownsRow_succ hown4
      obtain ⟨b4, bV4, u4⟩ := (u3.grown (World.grownBy_alloc w3 (.cells #[.int .u64 ((Wd.get v (svOf ds x.1).toNat (dvOf ds x.1).toNat : Nat) : Int)] 22) none)).appended hgrow4 hown4
      have bX3' := bX3.kept (World.grownBy_alloc w3 (.cells #[.int .u64 ((Wd.get v (svOf ds x.1).toNat (dvOf ds x.1).toNat : Nat) : Int)] 22) none) (by simp)
      have bX4 := bX3'.kept hgrow4 (bX3'.not_row (u3.own.alloc _))
      have st4 : Stp w.heap.size w3 w4 := (Stp.of_below (by omega) ((Below.refl _ w3).alloc (Nat.le_refl _) _)).trans (Stp.grown (by simp; omega) (u3.own.alloc _) hgrow4)
      refine hK.out _ _ (⟨bX4, bV4⟩) (fun hS => ?_)
      clear hK K
      try simp only [Act.put, List.setIfInBounds_toArray, List.set_cons_zero, List.set_cons_succ]
      have c4 := b4.cell
      have f4 := b4.frozen
      refine wpAnyH_ready (rs := [6]) (by kernel_rfl) (by simp) ?_
      refine AllReadyH.cons (o := _) rfl (fun K hK => ?_) AllReadyH.nil
      go_simp
      refine hK.out _ _ (⟨bX4.other (by simp; omega) _, u4.word⟩) (fun hS => ?_)
      clear hK K
      try simp only [Act.put, List.setIfInBounds_toArray, List.set_cons_zero, List.set_cons_succ]
      refine wpAnyH_done (by kernel_rfl) ?_ _
      have st5 := (st3.trans st4).trans (Stp.setCell w4 (p := ⟨w.heap.size + 1 + 1 + 1, 0, none⟩) (by simp; omega) (by simp) (.slice (some ⟨g4, 0, none⟩) (pre.length + 1) cap4))
      have bX5 := bX4.other (p := ⟨w.heap.size + 1 + 1 + 1, 0, none⟩) (by simp; omega) (.slice (some ⟨g4, 0, none⟩) (pre.length + 1) cap4)
      have hs5 := st5.2.1.size
      obtain ⟨w5, hw5⟩ : ∃ w5, w4.setCell ⟨w.heap.size + 1 + 1 + 1, 0, none⟩ (.slice (some ⟨g4, 0, none⟩) (pre.length + 1) cap4) = w5 := ⟨_, rfl⟩
      rw [hw5] at u4 st5 bX5 hs5 ⊢
      obtain ⟨sv5, hsv5⟩ : ∃ sv5, (Value.slice (some ⟨g4, 0, none⟩) (pre.length + 1) cap4) = sv5 := ⟨_, rfl⟩
      rw [hsv5] at u4
      clear hw5 hsv5 hS c4 f4 b4 bV4 bX4 bX3' st4 hgrow4 hown4 st3 bX3 u3 hs3 hb3
      gi_wp2
      refine region_round (fun y => PartBox y Bx (svOf ds x.1) (dvOf ds x.1)) (by kernel_rfl) (by kernel_rfl) (fun ⟨_, _, h⟩ => h) (bX5.kept (grown_drew _) (by simp)) (fun hS => ?_)
      refine wpAnyH_take (i := 1) (v := ?_) rfl (by kernel_rfl) (by kernel_rfl) (by kernel_rfl) (fun _ _ _ h => h) (Or.inl ⟨by rfl, ?_⟩) hS ?_
      rotate_left
      · (intro y hy; have c1 := hy.fst; have c2 := hy.snd; go_simp; try with_reducible rfl)
      try simp only [Act.put, List.setIfInBounds_toArray, List.set_cons_zero, List.set_cons_succ]
      refine wpAnyH_ready (rs := [0, 2]) (by kernel_rfl) (by simp) ?_
      refine AllReadyH.cons (o := _) rfl (fun K hK => ?_) (AllReadyH.cons (o := _) rfl (fun K hK => ?_) AllReadyH.nil)
      · have c0 := (u4.grown (grown_drew _)).above.cell
        go_simp
        refine hK.out _ _ (hS) (fun hS => ?_)
        clear hK K
        try simp only [Act.put, List.setIfInBounds_toArray, List.set_cons_zero, List.set_cons_succ]
        refine wpAnyH_ready (rs := [2]) (by kernel_rfl) (by simp) ?_
        refine AllReadyH.cons (o := _) rfl (fun K hK => ?_) AllReadyH.nil
        go_simp
        refine (mask_any _ _ _ q1 q2 q3).mono ?_
        rintro e w6 ⟨rfl, hb6⟩
        have u6 := (u4.grown (grown_drew _)).grown (grown_of_below hb6)
        have bX6 := (bX5.kept (grown_drew _) (by simp)).kept (grown_of_below hb6) (by simp)
        have st6 : Stp w.heap.size W w6 := st5.trans ((Stp.of_below (by omega) ((Below.refl _ w5).drew)).trans (Stp.of_below (by simp; omega) hb6))
        refine hK.out _ _ (bX6) (fun hS => ?_)
        clear hK K
        try simp only [Act.put, List.setIfInBounds_toArray, List.set_cons_zero, List.set_cons_succ]
        refine wpAnyH_take (i := 3) (v := ?_) rfl (by kernel_rfl) (by kernel_rfl) (by kernel_rfl) (fun _ _ _ h => h) (Or.inl ⟨by rfl, ?_⟩) hS ?_
        rotate_left
        · (intro y hy; skip; go_simp; try with_reducible rfl)
        try simp only [Act.put, List.setIfInBounds_toArray, List.set_cons_zero, List.set_cons_succ]
        have c6 := u6.above.cell
        have f6 := u6.above.frozen
        refine wpAnyH_ready (rs := [4]) (by kernel_rfl) (by simp) ?_
        refine AllReadyH.cons (o := _) rfl (fun K hK => ?_) AllReadyH.nil
        go_simp
        refine hK.out _ _ (bX6.other (by simp; omega) _) (fun hS => ?_)
        clear hK K
        try simp only [Act.put, List.setIfInBounds_toArray, List.set_cons_zero, List.set_cons_succ]
        refine wpAnyH_done (by kernel_rfl) ?_ _
        gi_wp2
        rw [restOf_snoc ds v hvb hs]
        have st7 := st6.trans (Stp.setCell w6 (p := ⟨w.heap.size + 1 + 1 + 1 + 1, 0, none⟩) (by simp; omega) (by simp) (.int .u64 (restOf ds v (pre ++ [x]))))
        exact ⟨by rw [hsz]; exact st7.1, st7.2, ⟨sv5, u6.setRest _⟩, hB1.trans st7.2.1⟩
      · go_simp
        refine (mask_any _ _ _ q1 q2 q3).mono ?_
        rintro e w6 ⟨rfl, hb6⟩
        have u6 := (u4.grown (grown_drew _)).grown (grown_of_below hb6)
        have bX6 := (bX5.kept (grown_drew _) (by simp)).kept (grown_of_below hb6) (by simp)
        have st6 : Stp w.heap.size W w6 := st5.trans ((Stp.of_below (by omega) ((Below.refl _ w5).drew)).trans (Stp.of_below (by simp; omega) hb6))
        refine hK.out _ _ (bX6) (fun hS => ?_)
        clear hK K
        try simp only [Act.put, List.setIfInBounds_toArray, List.set_cons_zero, List.set_cons_succ]
        have c0 := u6.above.cell
        refine wpAnyH_ready (rs := [0]) (by kernel_rfl) (by simp) ?_
        refine AllReadyH.cons (o := _) rfl (fun K hK => ?_) AllReadyH.nil
        go_simp
        refine hK.out _ _ (hS) (fun hS => ?_)
        clear hK K
        try simp only [Act.put, List.setIfInBounds_toArray, List.set_cons_zero, List.set_cons_succ]
        refine wpAnyH_take (i := 3) (v := ?_) rfl (by kernel_rfl) (by kernel_rfl) (by kernel_rfl) (fun _ _ _ h => h) (Or.inl ⟨by rfl, ?_⟩) hS ?_
        rotate_left
        · (intro y hy; skip; go_simp; try with_reducible rfl)
        try simp only [Act.put, List.setIfInBounds_toArray, List.set_cons_zero, List.set_cons_succ]
        have c6 := u6.above.cell
        have f6 := u6.above.frozen
        refine wpAnyH_ready (rs := [4]) (by kernel_rfl) (by simp) ?_
        refine AllReadyH.cons (o := _) rfl (fun K hK => ?_) AllReadyH.nil
        go_simp
        refine hK.out _ _ (bX6.other (by simp; omega) _) (fun hS => ?_)
        clear hK K
        try simp only [Act.put, List.setIfInBounds_toArray, List.set_cons_zero, List.set_cons_succ]
        refine wpAnyH_done (by kernel_rfl) ?_ _
        gi_wp2
        rw [restOf_snoc ds v hvb hs]
        have st7 := st6.trans (Stp.setCell w6 (p := ⟨w.heap.size + 1 + 1 + 1 + 1, 0, none⟩) (by simp; omega) (by simp) (.int .u64 (restOf ds v (pre ++ [x]))))
        exact ⟨by rw [hsz]; exact st7.1, st7.2, ⟨sv5, u6.setRest _⟩, hB1.trans st7.2.1⟩
    · go_simp
      refine (get_any _ _ _ _ (by omega) (by omega) q1 q2 q3).mono ?_
      rintro e w3 ⟨rfl, hb3⟩
      have u3 := (u2.grown (grown_drew _)).grown (grown_of_below hb3)
      have bX3 := (bX2.kept (grown_drew _) (by simp)).kept (grown_of_below hb3) (by simp)
      have st3 : Stp w.heap.size W w3 := st2.trans ((Stp.of_below (by omega) ((Below.refl _ w2).drew)).trans (Stp.of_below (by simp; omega) hb3))
      have hs3 : w2.heap.size ≤ w3.heap.size := hb3.size
      refine hK.out _ _ (⟨bX3, u3.word⟩) (fun hS => ?_)
      clear hK K
      try simp only [Act.put, List.setIfInBounds_toArray, List.set_cons_zero, List.set_cons_succ]
      refine wpAnyH_ready (rs := [0, 4]) (by kernel_rfl) (by simp) ?_
      refine AllReadyH.cons (o := _) rfl (fun K hK => ?_) (AllReadyH.cons (o := _) rfl (fun K hK => ?_) AllReadyH.nil)
      · have c0 := u3.row.cell
        go_simp
        refine hK.out _ _ (hS) (fun hS => ?_)
        clear hK K
        try simp only [Act.put, List.setIfInBounds_toArray, List.set_cons_zero, List.set_cons_succ]
        -- the one number is laid, appended, and the slice stored
        refine wpAnyH_ready (rs := [4]) (by kernel_rfl) (by simp) ?_
        refine AllReadyH.cons (o := _) rfl (fun K hK => ?_) AllReadyH.nil
        go_simp
        refine hK.out _ _ (⟨bX3.kept (World.grownBy_alloc _ _ none) (by simp), u3.word.alloc _⟩) (fun hS => ?_)
        clear hK K
        try simp only [Act.put, List.setIfInBounds_toArray, List.set_cons_zero, List.set_cons_succ]
        refine wpAnyH_ready (rs := [5]) (by kernel_rfl) (by simp) ?_
        refine AllReadyH.cons (o := _) rfl (fun K hK => ?_) AllReadyH.nil
        rw [if_pos (by rfl)]
        refine wp_append_own_wide _ (.tmp 18) (.tmp 22) 34 rfl (w.heap.size + 6) 22 i0 (.int .u64 0) 1 8 Try.underlying34 hi hz0 hz1 hz2 rfl (by decide) sv pre.length _ rfl (u3.own.alloc _) ⟨w3.heap.size, 0, none⟩ 1 1 [.int .u64 _] rfl rfl (cell_one_new _ _ _) (by simp [Value.oneCell']) (by unfold maxLen; omega) (by omega) (by simp; omega) ?_
        intro v' w4 hown4 hgrow4 _
        rw [← numsOf_snoc] at hown4
        obtain ⟨g4, cap4, rfl⟩ := ownsRow_succ hown4
        obtain ⟨b4, bV4, u4⟩ := (u3.grown (World.grownBy_alloc w3 (.cells #[.int .u64 ((Wd.get v (svOf ds x.1).toNat (dvOf ds x.1).toNat : Nat) : Int)] 22) none)).appended hgrow4 hown4
        have bX3' := bX3.kept (World.grownBy_alloc w3 (.cells #[.int .u64 ((Wd.get v (svOf ds x.1).toNat (dvOf ds x.1).toNat : Nat) : Int)] 22) none) (by simp)
        have bX4 := bX3'.kept hgrow4 (bX3'.not_row (u3.own.alloc _))
        have st4 : Stp w.heap.size w3 w4 := (Stp.of_below (by omega) ((Below.refl _ w3).alloc (Nat.le_refl _) _)).trans (Stp.grown (by simp; omega) (u3.own.alloc _) hgrow4)
        refine hK.out _ _ (⟨bX4, bV4⟩) (fun hS => ?_)
        clear hK K
        try simp only [Act.put, List.setIfInBounds_toArray, List.set_cons_zero, List.set_cons_succ]
        have c4 := b4.cell
        have f4 := b4.frozen
        refine wpAnyH_ready (rs := [6]) (by kernel_rfl) (by simp) ?_
        refine AllReadyH.cons (o := _) rfl (fun K hK => ?_) AllReadyH.nil
        go_simp
        refine hK.out _ _ (⟨bX4.other (by simp; omega) _, u4.word⟩) (fun hS => ?_)
        clear hK K
        try simp only [Act.put, List.setIfInBounds_toArray, List.set_cons_zero, List.set_cons_succ]
        refine wpAnyH_done (by kernel_rfl) ?_ _
        have st5 := (st3.trans st4).trans (Stp.setCell w4 (p := ⟨w.heap.size + 1 + 1 + 1, 0, none⟩) (by simp; omega) (by simp) (.slice (some ⟨g4, 0, none⟩) (pre.length + 1) cap4))
        have bX5 := bX4.other (p := ⟨w.heap.size + 1 + 1 + 1, 0, none⟩) (by simp; omega) (.slice (some ⟨g4, 0, none⟩) (pre.length + 1) cap4)
        have hs5 := st5.2.1.size
        obtain ⟨w5, hw5⟩ : ∃ w5, w4.setCell ⟨w.heap.size + 1 + 1 + 1, 0, none⟩ (.slice (some ⟨g4, 0, none⟩) (pre.length + 1) cap4) = w5 := ⟨_, rfl⟩
        rw [hw5] at u4 st5 bX5 hs5 ⊢
        obtain ⟨sv5, hsv5⟩ : ∃ sv5, (Value.slice (some ⟨g4, 0, none⟩) (pre.length + 1) cap4) = sv5 := ⟨_, rfl⟩
        rw [hsv5] at u4
        clear hw5 hsv5 hS c4 f4 b4 bV4 bX4 bX3' st4 hgrow4 hown4 st3 bX3 u3 hs3 hb3
        gi_wp2
        refine region_round (fun y => PartBox y Bx (svOf ds x.1) (dvOf ds x.1)) (by kernel_rfl) (by kernel_rfl) (fun ⟨_, _, h⟩ => h) (bX5.kept (grown_drew _) (by simp)) (fun hS => ?_)
        refine wpAnyH_take (i := 1) (v := ?_) rfl (by kernel_rfl) (by kernel_rfl) (by kernel_rfl) (fun _ _ _ h => h) (Or.inl ⟨by rfl, ?_⟩) hS ?_
        rotate_left
        · (intro y hy; have c1 := hy.fst; have c2 := hy.snd; go_simp; try with_reducible rfl)
        try simp only [Act.put, List.setIfInBounds_toArray, List.set_cons_zero, List.set_cons_succ]
        refine wpAnyH_ready (rs := [0, 2]) (by kernel_rfl) (by simp) ?_
        refine AllReadyH.cons (o := _) rfl (fun K hK => ?_) (AllReadyH.cons (o := _) rfl (fun K hK => ?_) AllReadyH.nil)
        · have c0 := (u4.grown (grown_drew _)).above.cell
          go_simp
          refine hK.out _ _ (hS) (fun hS => ?_)
          clear hK K
          try simp only [Act.put, List.setIfInBounds_toArray, List.set_cons_zero, List.set_cons_succ]
          refine wpAnyH_ready (rs := [2]) (by kernel_rfl) (by simp) ?_
          refine AllReadyH.cons (o := _) rfl (fun K hK => ?_) AllReadyH.nil
          go_simp
          refine (mask_any _ _ _ q1 q2 q3).mono ?_
          rintro e w6 ⟨rfl, hb6⟩
          have u6 := (u4.grown (grown_drew _)).grown (grown_of_below hb6)
          have bX6 := (bX5.kept (grown_drew _) (by simp)).kept (grown_of_below hb6) (by simp)
          have st6 : Stp w.heap.size W w6 := st5.trans ((Stp.of_below (by omega) ((Below.refl _ w5).drew)).trans (Stp.of_below (by simp; omega) hb6))
          refine hK.out _ _ (bX6) (fun hS => ?_)
          clear hK K
          try simp only [Act.put, List.setIfInBounds_toArray, List.set_cons_zero, List.set_cons_succ]
          refine wpAnyH_take (i := 3) (v := ?_) rfl (by kernel_rfl) (by kernel_rfl) (by kernel_rfl) (fun _ _ _ h => h) (Or.inl ⟨by rfl, ?_⟩) hS ?_
          rotate_left
          · (intro y hy; skip; go_simp; try with_reducible rfl)
          try simp only [Act.put, List.setIfInBounds_toArray, List.set_cons_zero, List.set_cons_succ]
          have c6 := u6.above.cell
          have f6 := u6.above.frozen
          refine wpAnyH_ready (rs := [4]) (by kernel_rfl) (by simp) ?_
          refine AllReadyH.cons (o := _) rfl (fun K hK => ?_) AllReadyH.nil
          go_simp
          refine hK.out _ _ (bX6.other (by simp; omega) _) (fun hS => ?_)
          clear hK K
          try simp only [Act.put, List.setIfInBounds_toArray, List.set_cons_zero, List.set_cons_succ]
          refine wpAnyH_done (by kernel_rfl) ?_ _
          gi_wp2
          rw [restOf_snoc ds v hvb hs]
          have st7 := st6.trans (Stp.setCell w6 (p := ⟨w.heap.size + 1 + 1 + 1 + 1, 0, none⟩) (by simp; omega) (by simp) (.int .u64 (restOf ds v (pre ++ [x]))))
          exact ⟨by rw [hsz]; exact st7.1, st7.2, ⟨sv5, u6.setRest _⟩, hB1.trans st7.2.1⟩
        · go_simp
          refine (mask_any _ _ _ q1 q2 q3).mono ?_
          rintro e w6 ⟨rfl, hb6⟩
          have u6 := (u4.grown (grown_drew _)).grown (grown_of_below hb6)
          have bX6 := (bX5.kept (grown_drew _) (by simp)).kept (grown_of_below hb6) (by simp)
          have st6 : Stp w.heap.size W w6 := st5.trans ((Stp.of_below (by omega) ((Below.refl _ w5).drew)).trans (Stp.of_below (by simp; omega) hb6))
          refine hK.out _ _ (bX6) (fun hS => ?_)
          clear hK K
          try simp only [Act.put, List.setIfInBounds_toArray, List.set_cons_zero, List.set_cons_succ]
          have c0 := u6.above.cell
          refine wpAnyH_ready (rs := [0]) (by kernel_rfl) (by simp) ?_
          refine AllReadyH.cons (o := _) rfl (fun K hK => ?_) AllReadyH.nil
          go_simp
          refine hK.out _ _ (hS) (fun hS => ?_)
          clear hK K
          try simp only [Act.put, List.setIfInBounds_toArray, List.set_cons_zero, List.set_cons_succ]
          refine wpAnyH_take (i := 3) (v := ?_) rfl (by kernel_rfl) (by kernel_rfl) (by kernel_rfl) (fun _ _ _ h => h) (Or.inl ⟨by rfl, ?_⟩) hS ?_
          rotate_left
          · (intro y hy; skip; go_simp; try with_reducible rfl)
          try simp only [Act.put, List.setIfInBounds_toArray, List.set_cons_zero, List.set_cons_succ]
          have c6 := u6.above.cell
          have f6 := u6.above.frozen
          refine wpAnyH_ready (rs := [4]) (by kernel_rfl) (by simp) ?_
          refine AllReadyH.cons (o := _) rfl (fun K hK => ?_) AllReadyH.nil
          go_simp
          refine hK.out _ _ (bX6.other (by simp; omega) _) (fun hS => ?_)
          clear hK K
          try simp only [Act.put, List.setIfInBounds_toArray, List.set_cons_zero, List.set_cons_succ]
          refine wpAnyH_done (by kernel_rfl) ?_ _
          gi_wp2
          rw [restOf_snoc ds v hvb hs]
          have st7 := st6.trans (Stp.setCell w6 (p := ⟨w.heap.size + 1 + 1 + 1 + 1, 0, none⟩) (by simp; omega) (by simp) (.int .u64 (restOf ds v (pre ++ [x]))))
          exact ⟨by rw [hsz]; exact st7.1, st7.2, ⟨sv5, u6.setRest _⟩, hB1.trans st7.2.1⟩
      · go_simp
        refine hK.out _ _ (⟨bX3.kept (World.grownBy_alloc _ _ none) (by simp), u3.word.alloc _⟩) (fun hS => ?_)
        clear hK K
        try simp only [Act.put, List.setIfInBounds_toArray, List.set_cons_zero, List.set_cons_succ]
        have c0 := (u3.grown (World.grownBy_alloc w3 (.cells #[.int .u64 ((Wd.get v (svOf ds x.1).toNat (dvOf ds x.1).toNat : Nat) : Int)] 22) none)).row.cell
        refine wpAnyH_ready (rs := [0]) (by kernel_rfl) (by simp) ?_
        refine AllReadyH.cons (o := _) rfl (fun K hK => ?_) AllReadyH.nil
        go_simp
        refine hK.out _ _ (hS) (fun hS => ?_)
        clear hK K
        try simp only [Act.put, List.setIfInBounds_toArray, List.set_cons_zero, List.set_cons_succ]
        refine wpAnyH_ready (rs := [5]) (by kernel_rfl) (by simp) ?_
        refine AllReadyH.cons (o := _) rfl (fun K hK => ?_) AllReadyH.nil
        rw [if_pos (by rfl)]
        refine wp_append_own_wide _ (.tmp 18) (.tmp 22) 34 rfl (w.heap.size + 6) 22 i0 (.int .u64 0) 1 8 Try.underlying34 hi hz0 hz1 hz2 rfl (by decide) sv pre.length _ rfl (u3.own.alloc _) ⟨w3.heap.size, 0, none⟩ 1 1 [.int .u64 _] rfl rfl (cell_one_new _ _ _) (by simp [Value.oneCell']) (by unfold maxLen; omega) (by omega) (by simp; omega) ?_
        intro v' w4 hown4 hgrow4 _
        rw [← numsOf_snoc] at hown4
        obtain ⟨g4, cap4, rfl⟩ := ownsRow_succ hown4
        obtain ⟨b4, bV4, u4⟩ := (u3.grown (World.grownBy_alloc w3 (.cells #[.int .u64 ((Wd.get v (svOf ds x.1).toNat (dvOf ds x.1).toNat : Nat) : Int)] 22) none)).appended hgrow4 hown4
        have bX3' := bX3.kept (World.grownBy_alloc w3 (.cells #[.int .u64 ((Wd.get v (svOf ds x.1).toNat (dvOf ds x.1).toNat : Nat) : Int)] 22) none) (by simp)
        have bX4 := bX3'.kept hgrow4 (bX3'.not_row (u3.own.alloc _))
        have st4 : Stp w.heap.size w3 w4 := (Stp.of_below (by omega) ((Below.refl _ w3).alloc (Nat.le_refl _) _)).trans (Stp.grown (by simp; omega) (u3.own.alloc _) hgrow4)
        refine hK.out _ _ (⟨bX4, bV4⟩) (fun hS => ?_)
        clear hK K
        try simp only [Act.put, List.setIfInBounds_toArray, List.set_cons_zero, List.set_cons_succ]
        have c4 := b4.cell
        have f4 := b4.frozen
        refine wpAnyH_ready (rs := [6]) (by kernel_rfl) (by simp) ?_
        refine AllReadyH.cons (o := _) rfl (fun K hK => ?_) AllReadyH.nil
        go_simp
        refine hK.out _ _ (⟨bX4.other (by simp; omega) _, u4.word⟩) (fun hS => ?_)
        clear hK K
        try simp only [Act.put, List.setIfInBounds_toArray, List.set_cons_zero, List.set_cons_succ]
        refine wpAnyH_done (by kernel_rfl) ?_ _
        have st5 := (st3.trans st4).trans (Stp.setCell w4 (p := ⟨w.heap.size + 1 + 1 + 1, 0, none⟩) (by simp; omega) (by simp) (.slice (some ⟨g4, 0, none⟩) (pre.length + 1) cap4))
        have bX5 := bX4.other (p := ⟨w.heap.size + 1 + 1 + 1, 0, none⟩) (by simp; omega) (.slice (some ⟨g4, 0, none⟩) (pre.length + 1) cap4)
        have hs5 := st5.2.1.size
        obtain ⟨w5, hw5⟩ : ∃ w5, w4.setCell ⟨w.heap.size + 1 + 1 + 1, 0, none⟩ (.slice (some ⟨g4, 0, none⟩) (pre.length + 1) cap4) = w5 := ⟨_, rfl⟩
        rw [hw5] at u4 st5 bX5 hs5 ⊢
        obtain ⟨sv5, hsv5⟩ : ∃ sv5, (Value.slice (some ⟨g4, 0, none⟩) (pre.length + 1) cap4) = sv5 := ⟨_, rfl⟩
        rw [hsv5] at u4
        clear hw5 hsv5 hS c4 f4 b4 bV4 bX4 bX3' st4 hgrow4 hown4 st3 bX3 u3 hs3 hb3
        gi_wp2
        refine region_round (fun y => PartBox y Bx (svOf ds x.1) (dvOf ds x.1)) (by kernel_rfl) (by kernel_rfl) (fun ⟨_, _, h⟩ => h) (bX5.kept (grown_drew _) (by simp)) (fun hS => ?_)
        refine wpAnyH_take (i := 1) (v := ?_) rfl (by kernel_rfl) (by kernel_rfl) (by kernel_rfl) (fun _ _ _ h => h) (Or.inl ⟨by rfl, ?_⟩) hS ?_
        rotate_left
        · (intro y hy; have c1 := hy.fst; have c2 := hy.snd; go_simp; try with_reducible rfl)
        try simp only [Act.put, List.setIfInBounds_toArray, List.set_cons_zero, List.set_cons_succ]
        refine wpAnyH_ready (rs := [0, 2]) (by kernel_rfl) (by simp) ?_
        refine AllReadyH.cons (o := _) rfl (fun K hK => ?_) (AllReadyH.cons (o := _) rfl (fun K hK => ?_) AllReadyH.nil)
        · have c0 := (u4.grown (grown_drew _)).above.cell
          go_simp
          refine hK.out _ _ (hS) (fun hS => ?_)
          clear hK K
          try simp only [Act.put, List.setIfInBounds_toArray, List.set_cons_zero, List.set_cons_succ]
          refine wpAnyH_ready (rs := [2]) (by kernel_rfl) (by simp) ?_
          refine AllReadyH.cons (o := _) rfl (fun K hK => ?_) AllReadyH.nil
          go_simp
          refine (mask_any _ _ _ q1 q2 q3).mono ?_
          rintro e w6 ⟨rfl, hb6⟩
          have u6 := (u4.grown (grown_drew _)).grown (grown_of_below hb6)
          have bX6 := (bX5.kept (grown_drew _) (by simp)).kept (grown_of_below hb6) (by simp)
          have st6 : Stp w.heap.size W w6 := st5.trans ((Stp.of_below (by omega) ((Below.refl _ w5).drew)).trans (Stp.of_below (by simp; omega) hb6))
          refine hK.out _ _ (bX6) (fun hS => ?_)
          clear hK K
          try simp only [Act.put, List.setIfInBounds_toArray, List.set_cons_zero, List.set_cons_succ]
          refine wpAnyH_take (i := 3) (v := ?_) rfl (by kernel_rfl) (by kernel_rfl) (by kernel_rfl) (fun _ _ _ h => h) (Or.inl ⟨by rfl, ?_⟩) hS ?_
          rotate_left
          · (intro y hy; skip; go_simp; try with_reducible rfl)
          try simp only [Act.put, List.setIfInBounds_toArray, List.set_cons_zero, List.set_cons_succ]
          have c6 := u6.above.cell
          have f6 := u6.above.frozen
          refine wpAnyH_ready (rs := [4]) (by kernel_rfl) (by simp) ?_
          refine AllReadyH.cons (o := _) rfl (fun K hK => ?_) AllReadyH.nil
          go_simp
          refine hK.out _ _ (bX6.other (by simp; omega) _) (fun hS => ?_)
          clear hK K
          try simp only [Act.put, List.setIfInBounds_toArray, List.set_cons_zero, List.set_cons_succ]
          refine wpAnyH_done (by kernel_rfl) ?_ _
          gi_wp2
          rw [restOf_snoc ds v hvb hs]
          have st7 := st6.trans (Stp.setCell w6 (p := ⟨w.heap.size + 1 + 1 + 1 + 1, 0, none⟩) (by simp; omega) (by simp) (.int .u64 (restOf ds v (pre ++ [x]))))
          exact ⟨by rw [hsz]; exact st7.1, st7.2, ⟨sv5, u6.setRest _⟩, hB1.trans st7.2.1⟩
        · go_simp
          refine (mask_any _ _ _ q1 q2 q3).mono ?_
          rintro e w6 ⟨rfl, hb6⟩
          have u6 := (u4.grown (grown_drew _)).grown (grown_of_below hb6)
          have bX6 := (bX5.kept (grown_drew _) (by simp)).kept (grown_of_below hb6) (by simp)
          have st6 : Stp w.heap.size W w6 := st5.trans ((Stp.of_below (by omega) ((Below.refl _ w5).drew)).trans (Stp.of_below (by simp; omega) hb6))
          refine hK.out _ _ (bX6) (fun hS => ?_)
          clear hK K
          try simp only [Act.put, List.setIfInBounds_toArray, List.set_cons_zero, List.set_cons_succ]
          have c0 := u6.above.cell
          refine wpAnyH_ready (rs := [0]) (by kernel_rfl) (by simp) ?_
          refine AllReadyH.cons (o := _) rfl (fun K hK => ?_) AllReadyH.nil
          go_simp
          refine hK.out _ _ (hS) (fun hS => ?_)
          clear hK K
          try simp only [Act.put, List.setIfInBounds_toArray, List.set_cons_zero, List.set_cons_succ]
          refine wpAnyH_take (i := 3) (v := ?_) rfl (by kernel_rfl) (by kernel_rfl) (by kernel_rfl) (fun _ _ _ h => h) (Or.inl ⟨by rfl, ?_⟩) hS ?_
          rotate_left
          · (intro y hy; skip; go_simp; try with_reducible rfl)
          try simp only [Act.put, List.setIfInBounds_toArray, List.set_cons_zero, List.set_cons_succ]
          have c6 := u6.above.cell
          have f6 := u6.above.frozen
          refine wpAnyH_ready (rs := [4]) (by kernel_rfl) (by simp) ?_
          refine AllReadyH.cons (o := _) rfl (fun K hK => ?_) AllReadyH.nil
          go_simp
          refine hK.out _ _ (bX6.other (by simp; omega) _) (fun hS => ?_)
          clear hK K
          try simp only [Act.put, List.setIfInBounds_toArray, List.set_cons_zero, List.set_cons_succ]
          refine wpAnyH_done (by kernel_rfl) ?_ _
          gi_wp2
          rw [restOf_snoc ds v hvb hs]
          have st7 := st6.trans (Stp.setCell w6 (p := ⟨w.heap.size + 1 + 1 + 1 + 1, 0, none⟩) (by simp; omega) (by simp) (.int .u64 (restOf ds v (pre ++ [x]))))
          exact ⟨by rw [hsz]; exact st7.1, st7.2, ⟨sv5, u6.setRest _⟩, hB1.trans st7.2.1⟩
  case done =>
    rintro D xs W hD hxs ⟨⟨sv, u⟩, hB1⟩ hK
    have hsW := hB1.size
    have hrz : restOf ds v xs = 0 ↔ v < 2 ^ ds.sum := by
      unfold restOf
      rw [hxs, ← Wd.rest_zero ds v hvb hs]
      omega
    have hnum : numsOf ds v xs = (Wd.nums ds v (List.range ds.length)).map fun x : Nat => Value.int .u64 (x : Int) := by unfold numsOf; rw [hxs]
    have hxl : xs.length = ds.length := by rw [← List.length_map Fin.val, hxs]; simp
    have hfin : Hid (UnpackPost ds v w = UnpackPost ds v w) := rfl
    obtain ⟨p, n', cap, rfl⟩ : ∃ p n' cap, sv = .slice p n' cap := by
      rcases u.own.2 with ⟨rfl, _⟩ | ⟨g, cap, cur, rfl, _⟩
      · exact ⟨_, _, _, rfl⟩
      · exact ⟨_, _, _, rfl⟩
    have own2 := u.own
    rw [hnum, hxl] at own2
    have Hown := Lib.hid own2
    have Hrz := Lib.hid hrz
    clear hnum hxl own2 hrz hfin
    have cA := u.above.cell
    have cL := u.row.cell
    have cR := u.res.cell
    have cE := u.flag.cell
    have fR := u.res.frozen
    have fE := u.flag.frozen
    by_cases hfit : v < 2 ^ ds.sum
    · have h0 := Hrz.out.2 hfit
      rw [h0] at cA
      have Hfit := Lib.hid hfit
      clear hfit h0
      gi_wp2
      have bR2 := (u.res.set (.slice p n' cap)).other (B' := w.heap.size + 1 + 1) (by omega) (.bool true)
      have bE2 := (u.flag.other (B' := w.heap.size + 1) (by omega) (.slice p n' cap)).set (.bool true)
      have hK2 := ((KeepsOthers.setCell W ⟨w.heap.size + 1, 0, none⟩ (.slice p n' cap)).trans (KeepsOthers.setCell _ ⟨w.heap.size + 1 + 1, 0, none⟩ (.bool true))).same D _ hK rfl
      have hB2 : Below w.heap.size w ((W.setCell ⟨w.heap.size + 1, 0, none⟩ (.slice p n' cap)).setCell ⟨w.heap.size + 1 + 1, 0, none⟩ (.bool true)) := ((hB0.trans hB1).setCell (by simp) _).setCell (by simp; omega) _
      have own3 := ownsRow_setCell_below (a := ⟨w.heap.size + 1 + 1, 0, none⟩) (ownsRow_setCell_below (a := ⟨w.heap.size + 1, 0, none⟩) Hown.out (by simp) (.slice p n' cap)) (by simp) (.bool true)
      obtain ⟨W2, hW2⟩ : ∃ W2, (W.setCell ⟨w.heap.size + 1, 0, none⟩ (.slice p n' cap)).setCell ⟨w.heap.size + 1 + 1, 0, none⟩ (.bool true) = W2 := ⟨_, rfl⟩
      rw [hW2] at bR2 bE2 hK2 hB2 own3 ⊢
      clear hW2
      refine ⟨by simp, .inl ⟨_, _, rfl, run_takeDeferred hK2, ?_⟩⟩
      have cR3 := (bR2.kept (grownBy_putObj' W2 D (.deferred none)) (fun e => by injection e; omega)).cell
      have cE3 := (bE2.kept (grownBy_putObj' W2 D (.deferred none)) (fun e => by injection e; omega)).cell
      have own4 := ownsRow_putObj own3 (.deferred none) hK2 rfl
      refine ⟨.tuple #[.slice p n' cap, .bool true], ?_, .slice p n' cap, ?_, fun _ => ⟨own4.1, own4.2.imp id fun ⟨g, cp, cur, e, hb, rest⟩ => ⟨g, cp, cur, e, by omega, rest⟩⟩, fun hn => absurd Hfit.out hn, hB2.trans (belowK_b (w := w) (Nat.le_refl _) W2 D _ _ (by omega) hK2 rfl rfl)⟩
      · simp [results, Try.f17, go_sem, cR3, cE3]
      · rw [decide_eq_true Hfit.out]
    · have h0 : (restOf ds v xs == 0) = false := beq_eq_false_iff_ne.2 (fun e => hfit (Hrz.out.1 e))
      have h00 : restOf ds v xs ≠ 0 := fun e => hfit (Hrz.out.1 e)
      have Hfit := Lib.hid hfit
      clear hfit
      gi_wp2
      have bR2 := (u.res.set (.slice none 0 0)).other (B' := w.heap.size + 1 + 1) (by omega) (.bool false)
      have bE2 := (u.flag.other (B' := w.heap.size + 1) (by omega) (.slice none 0 0)).set (.bool false)
      have hK2 := ((KeepsOthers.setCell W ⟨w.heap.size + 1, 0, none⟩ (.slice none 0 0)).trans (KeepsOthers.setCell _ ⟨w.heap.size + 1 + 1, 0, none⟩ (.bool false))).same D _ hK rfl
      have hB2 : Below w.heap.size w ((W.setCell ⟨w.heap.size + 1, 0, none⟩ (.slice none 0 0)).setCell ⟨w.heap.size + 1 + 1, 0, none⟩ (.bool false)) := ((hB0.trans hB1).setCell (by simp) _).setCell (by simp; omega) _
      obtain ⟨W2, hW2⟩ : ∃ W2, (W.setCell ⟨w.heap.size + 1, 0, none⟩ (.slice none 0 0)).setCell ⟨w.heap.size + 1 + 1, 0, none⟩ (.bool false) = W2 := ⟨_, rfl⟩
      rw [hW2] at bR2 bE2 hK2 hB2 ⊢
      clear hW2
      refine ⟨by simp, .inl ⟨_, _, rfl, run_takeDeferred hK2, ?_⟩⟩
      have cR3 := (bR2.kept (grownBy_putObj' W2 D (.deferred none)) (fun e => by injection e; omega)).cell
      have cE3 := (bE2.kept (grownBy_putObj' W2 D (.deferred none)) (fun e => by injection e; omega)).cell
      refine ⟨.tuple #[.slice none 0 0, .bool false], ?_, .slice none 0 0, ?_, fun hn => absurd hn Hfit.out, fun _ => rfl, hB2.trans (belowK_b (w := w) (Nat.le_refl _) W2 D _ _ (by omega) hK2 rfl rfl)⟩
      · simp [results, Try.f17, go_sem, cR3, cE3]
      · rw [decide_eq_false Hfit.out]
  case stop =>
    rintro D c pre W _ _ h _
    exact h.elim

end Go.Proofs.Ytadncljhckakmaa
