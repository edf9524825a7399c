/- Package graph: rank, add, reach, Reach; package mover's Strong. Conditions: there are objects at all places that are told (Grph). -/
import Derived.Test.YtceedbkacbaaiaaGraphMath
import Derived.Test.YtceedbkacbaaiaaMap
import Derived.Test.YtceedbkacbaaiaaMoverLaw
import Derived.Test.YtceedbkacbaaiaaBlk
import Derived.Deep.CutRange
import Derived.Deep.RegionHeld3
import Derived.Maps.AppendAt
namespace Go.Proofs.Ytceedbkacbaaiaa
open Go.ChangeShapes Go.WideShapes Go.ChangeAt Go.RowKit

set_option linter.unusedSimpArgs false
set_option linter.unusedVariables false

/-- The pointers of an object, the first n. -/
def ptrL (l : List Int) (a n : Nat) : List Int := (List.range n).map fun i => l.getD (a + (3 + i)) 0
theorem ptrL_length (l : List Int) (a n : Nat) : (ptrL l a n).length = n := by unfold ptrL; simp
theorem ptrL_at {l : List Int} {a n i : Nat} (h : i < n) : (ptrL l a n).getD i 0 = l.getD (a + (3 + i)) 0 := by unfold ptrL; simp [List.getD, h]

section
variable {P b : Nat} {l : List Int} {p d : Nat} {wk fn fr : Bool}
theorem strong_count (a : Nat) (w : World) (h : ArenaAt 65 w P b l) (o : ObjIs l a p d wk fn fr) :
    Calls Try.prog 32 #[.pointer (some ⟨P, 0, none⟩), .int .i64 a] w fun e w' => e = .returned (.tuple #[.int .i64 (if wk then 0 else p : Nat), .int .i64 0]) ∧ Below w.heap.size w w' := by
  have HS := shape_at a w h o
  clear h o
  go_enter Try.func32, Try.ntmps32
  go_wp2_with fail
  refine HS.mono ?_
  rintro e x ⟨rfl, hb⟩
  have hB := hb.alloc hb.size (.cells #[.int .i64 p, .int .i64 d, .bool wk, .bool fn] 51)
  cases wk
  · go_wp2
    go_ret2
    exact ⟨rfl, hB⟩
  · go_wp2
    go_ret2
    exact ⟨rfl, hB⟩

set_option maxRecDepth 100000 in
set_option maxHeartbeats 2000000 in
theorem strong_at (a : Nat) (w : World) (h : ArenaAt 65 w P b l) (o : ObjIs l a p d wk fn fr) (hs : ∀ i, i < p → 0 ≤ l.getD (a + (3 + i)) 0 ∧ l.getD (a + (3 + i)) 0 ≤ 9223372036854775807) :
    Calls Try.prog 12 #[.pointer (some ⟨P, 0, none⟩), .int .i64 a] w fun e w' => ∃ sv, e = .returned (.tuple #[sv, .int .i64 0]) ∧
      w'.ownsRow w.heap.size 3 1 sv (if wk then 0 else p) ((ptrL l a (if wk then 0 else p)).map (Value.int .i64)) ∧ Below w.heap.size w w' := by
  obtain ⟨i0, hi, hz0, hz1, hz2⟩ := info_parts infoInt
  have hlt := h.lt
  have HC := strong_count a w h o
  obtain ⟨n, hn⟩ : ∃ n, (if wk then 0 else p) = n := ⟨_, rfl⟩
  have hnp : n ≤ p := by rw [← hn]; split <;> omega
  have hp8 := o.ptrs
  rw [hn] at HC ⊢
  clear hn
  have hmk := fun W => make_row (P := Try.prog) 23 3 i0 (.int .i64 0) Try.underlying23 hi hz0 .i64 .i64 n n (Nat.le_refl _) (by rw [hz2]; omega) (by omega) W
  simp only [hz1, Nat.mul_one] at hmk
  go_enter Try.func12, Try.ntmps12
  go_wp2_with fail
  refine HC.mono ?_
  rintro e x ⟨rfl, hb⟩
  clear HC
  have kr := BlkIs.new x ((List.replicate n (0 : Int)).map (Value.int .i64)).toArray 3
  rw [← made_ints] at kr
  have hB := hb.alloc hb.size (.cells (madeCells #[Value.int .i64 0] n) 3)
  have hxs := hb.size
  go_wp2_with fail
  rw [made_ints] at kr hB ⊢
  obtain ⟨g, hg⟩ : ∃ g, x.heap.size = g := ⟨_, rfl⟩
  rw [hg] at kr hxs ⊢
  generalize x.alloc (.cells ((List.replicate n (0 : Int)).map (Value.int .i64)).toArray 3) = wo at *
  clear hg hb x
  have hA := h.below hB hlt.1 hlt.2
  have hgb : ¬ g = b := by omega
  go_loopw [23] (fun i wr => ∃ (k : Nat) (zs : List Int), k ≤ n ∧ i = .int .i64 k ∧ zs.length = n ∧ (∀ j, j < k → zs.getD j 0 = l.getD (a + (3 + j)) 0) ∧ BlkIs wr g (zs.map (Value.int .i64)).toArray 3 ∧ Below w.heap.size w wr) (fun i _ => n - (intOf i).toNat)
  case atStart => exact ⟨0, _, by omega, rfl, by simp, fun j hj => by omega, kr, hB⟩
  case round =>
    obtain ⟨k, zs, hk, rfl, hzl, hzs, hkr, hB2⟩ := hrel
    by_cases hlt2 : k < n
    · have M1 := ptr_at a k wr (h.below hB2 hlt.1 hlt.2) o (by omega) (hs k (by omega))
      obtain ⟨y, hy⟩ : ∃ y, l.getD (a + (3 + k)) 0 = y := ⟨_, rfl⟩
      rw [hy] at M1
      have j0 : (0 : Int) ≤ (k : Int) := by omega
      have j1 : (k : Int) < (n : Int) := by omega
      go_wp2_with fail
      refine M1.mono ?_
      rintro e x2 ⟨rfl, hb2⟩
      clear M1
      have hkx := hkr.more hb2 (Nat.le_refl _)
      have hB3 := hB2.trans (hb2.mono hB2.size)
      have hc := hkx.cell k
      rw [show ((zs.map (Value.int .i64)).toArray)[k]? = some (.int .i64 (zs.getD k 0)) from by simp [List.getD, show k < zs.length from by omega]] at hc
      have hf := hkx.free k
      go_wp2
      go_roundw
      case rel =>
        refine ⟨k + 1, zs.set k y, by omega, by go_num, by rw [List.length_set]; exact hzl, fun j hj => ?_, ?_, hB3.setCell (by simpa using hxs) _⟩
        · rw [set_at' (by omega)]
          by_cases e : j = k
          · subst e; rw [if_pos rfl, hy]
          · rw [if_neg e]; exact hzs j (by omega)
        · have := hkx.set k (.int .i64 y)
          simpa [List.map_set] using this
      case measure => simp [intOf]; omega
    · obtain rfl : k = n := by omega
      go_wp2
      go_ret2
      have e : zs = ptrL l a k := ext_getD (by rw [hzl, ptrL_length]) fun j hj => by rw [hzs j (by omega), ptrL_at (by omega)]
      subst e
      refine ⟨_, rfl, ⟨by simp [ptrL_length], .inr ⟨g, k, _, rfl, by omega, hkr, Nat.le_refl _, by unfold maxLen; omega, by simp [ptrL_length], by simp [List.take_of_length_le, ptrL_length]⟩⟩, hB2⟩
end

/-- What a map of places tells. -/
def rk (o : List Int) (y : Int) : Option Int := (pos y o).map fun k : Nat => (k : Int)
theorem rk_snoc {o : List Int} {x : Int} (h : x ∉ o) (y : Int) : rk (o ++ [x]) y = if y = x then some (o.length : Int) else rk o y := by
  unfold rk
  rw [pos_snoc y x o h]
  split <;> rfl

/-- What one has come to: block F is the struct, block mb its map; the order is the call's own, from block B on. -/
structure FoundAt (B : Nat) (w : World) (F mb : Nat) (ov : Value) (o : List Int) : Prop where
  blk : BlkIs w F #[ov, .map (some mb)] 76
  map : IMap w mb o.length (rk o)
  own : w.ownsRow B 3 1 ov o.length (o.map (Value.int .i64))

theorem own_slice {w : World} {base n size : Nat} {e : TypeId} {v : Value} {xs : List Value} (h : w.ownsRow base e size v n xs) : ∃ a c, v = .slice a n c := by
  rcases h.2 with ⟨rfl, h0⟩ | ⟨g, cap, cur, rfl, _⟩
  · exact ⟨none, 0, by rw [h0]⟩
  · exact ⟨_, _, rfl⟩
theorem IMap.noCell {w : World} {b n : Nat} {g : Int → Option Int} (h : IMap w b n g) (i : Nat) : w.cell? ⟨b, i, none⟩ = none := by
  obtain ⟨D, ⟨es, clock, hb, _⟩, _⟩ := h
  simp [World.cell?, hb]

set_option maxRecDepth 100000 in
theorem rank_any (F mb n : Nat) (ov : Value) (o : List Int) (x : Int) (w : World) (hk : BlkIs w F #[ov, .map (some mb)] 76) (hm : IMap w mb n (rk o)) (hx : -9223372036854775808 ≤ x ∧ x ≤ 9223372036854775807) :
    Calls Try.prog 34 #[.pointer (some ⟨F, 0, none⟩), .int .i64 x] w fun e w' => e = .returned (.int .i64 (rankV o x)) ∧ w = w' := by
  have c1 : w.cell? ⟨F, 1, none⟩ = some (.map (some mb)) := hk.cell 1
  by_cases h0 : x = 0
  · subst h0
    have e : rankV o 0 = -1 := rfl
    rw [e]
    go_enter Try.func34, Try.ntmps34
    go_wp2
    go_ret
    exact ⟨rfl, rfl⟩
  · have b0 : ((x : Int) == 0) = false := by simpa using h0
    cases hr : pos x o with
    | none =>
      have e : rankV o x = -2 := by unfold rankV; rw [if_neg h0, hr]; rfl
      have e2 : rk o x = none := by unfold rk; rw [hr]; rfl
      have H := fun {ops rest op a Q} hg m y hop h1 h2 hK => wpList_imap_find (w := w) (ops := ops) (rest := rest) (o := op) (a := a) (Q := Q) hg m y hop h1 hm h2 hx hK
      simp only [e2] at H
      rw [e]
      clear hr
      go_enter Try.func34, Try.ntmps34
      go_wp2_with (at_lookup; refine H rfl _ _ rfl rfl rfl ?_; simp only [Option.getD_none, Option.isSome_none])
      go_ret
      exact ⟨rfl, rfl⟩
    | some k =>
      have e : rankV o x = (k : Int) := by unfold rankV; rw [if_neg h0, hr]; rfl
      have e2 : rk o x = some (k : Int) := by unfold rk; rw [hr]; rfl
      have H := fun {ops rest op a Q} hg m y hop h1 h2 hK => wpList_imap_find (w := w) (ops := ops) (rest := rest) (o := op) (a := a) (Q := Q) hg m y hop h1 hm h2 hx hK
      simp only [e2] at H
      rw [e]
      clear hr
      go_enter Try.func34, Try.ntmps34
      go_wp2_with (at_lookup; refine H rfl _ _ rfl rfl rfl ?_; simp only [Option.getD_some, Option.isSome_some])
      go_ret
      exact ⟨rfl, rfl⟩

/-- What 'add' may turn. -/
def AddS (F mb : Nat) (ov : Value) (k : Nat) : Prop := k = F ∨ k = mb ∨ some k = ov.ownBlock
theorem own_block {w : World} {base n size : Nat} {e : TypeId} {v : Value} {xs : List Value} (h : w.ownsRow base e size v n xs) {k : Nat} (hk : some k = v.ownBlock) : base ≤ k ∧ ∃ cur, w.heap[k]? = some (.cells cur e (0, 0)) := by
  rcases h.2 with ⟨rfl, h0⟩ | ⟨g, cap, cur, rfl, hb, hh, _⟩
  · simp [Value.ownBlock] at hk
  · simp [Value.ownBlock] at hk
    subst hk
    exact ⟨hb, cur, hh⟩
theorem add1_in {o : List Int} {x : Int} (h : rankV o x ≠ -2) : add1 o x = o := by
  unfold add1
  rw [if_pos]
  by_cases h0 : x = 0
  · exact .inl h0
  · refine .inr (Classical.byContradiction fun hn => h ?_)
    unfold rankV
    rw [if_neg h0, pos_none hn]; rfl
theorem add1_out {o : List Int} {x : Int} (h : rankV o x = -2) : x ∉ o ∧ add1 o x = o ++ [x] := by
  unfold rankV at h
  by_cases h0 : x = 0
  · rw [if_pos h0] at h
    exact absurd h (by decide)
  · rw [if_neg h0] at h
    cases hp : pos x o with
    | none =>
      have hn : x ∉ o := fun hm => by have := pos_mem.2 hm; rw [hp] at this; simp at this
      exact ⟨hn, by unfold add1; rw [if_neg (fun h => h.elim h0 hn)]⟩
    | some k => rw [hp] at h; simp at h
theorem addO_len (o xs : List Int) : (addO o xs).length ≤ o.length + xs.length := by
  induction xs generalizing o with
  | nil => exact Nat.le_refl _
  | cons x xs ih =>
    have h := ih (add1 o x)
    have h1 : (add1 o x).length ≤ o.length + 1 := by unfold add1; split <;> simp
    show (addO (add1 o x) xs).length ≤ _
    simp
    omega

/-- What an append to a row doesn't turn. -/
theorem BlkIs.grown {w w' : World} {F base n size : Nat} {cs : Array Value} {T e : TypeId} {v : Value} {xs : List Value} (h : BlkIs w F cs T) (ho : w.ownsRow base e size v n xs) (hte : e ≠ T) (hg : w.grownBy w' v.ownBlock) : BlkIs w' F cs T := by
  refine (hg.block F h.lt fun e' => ?_).trans h
  obtain ⟨_, cur, hh⟩ := own_block ho e'
  unfold BlkIs at h
  rw [h] at hh
  injection hh with hh
  injection hh with _ hh
  exact hte hh.symm
theorem IMap.grown {w w' : World} {b m base n size : Nat} {g : Int → Option Int} {e : TypeId} {v : Value} {xs : List Value} (h : IMap w b m g) (ho : w.ownsRow base e size v n xs) (hg : w.grownBy w' v.ownBlock) : IMap w' b m g :=
  h.chg (S := fun k => some k = v.ownBlock) (Chg.of_grown hg fun k e => e) fun e' => by
    obtain ⟨_, cur, hh⟩ := own_block ho e'
    obtain ⟨D, ⟨es, clock, hb', _⟩, _⟩ := h
    rw [hh] at hb'
    injection hb' with hb'
    cases hb'

set_option maxRecDepth 100000 in
set_option maxHeartbeats 4000000 in
theorem add_some (F mb B g c : Nat) (ov : Value) (o xs : List Int) (w : World) (hF : FoundAt B w F mb ov o) (hB : B ≤ w.heap.size) (hc : xs.length ≤ c) (hlen : o.length + xs.length ≤ 1000000)
    (hx : ∀ j, j < xs.length → w.cell? ⟨g, j, none⟩ = some (.int .i64 (xs.getD j 0))) (hxb : ∀ x ∈ xs, -9223372036854775808 ≤ x ∧ x ≤ 9223372036854775807) (hg : ov.ownBlock ≠ some g) (hpos : 0 < xs.length) :
    Calls Try.prog 62 #[.pointer (some ⟨F, 0, none⟩), .slice (some ⟨g, 0, none⟩) xs.length c] w fun e w' => ∃ ov', e = .returned (.tuple #[]) ∧ FoundAt B w' F mb ov' (addO o xs) ∧ (ov'.ownBlock = ov.ownBlock ∨ ∃ k, ov'.ownBlock = some k ∧ w.heap.size ≤ k) ∧ Chg (AddS F mb ov) w w' := by
  obtain ⟨i0, hi, hz0, hz1, hz2⟩ := info_parts infoInt
  have hc0 := hx 0 hpos
  have hgF : ¬ g = F := fun e => by
    subst e
    rw [hF.blk.cell 0] at hc0
    obtain ⟨a, c, rfl⟩ := own_slice hF.own
    simp at hc0
  have hgm : ¬ g = mb := fun e => by subst e; rw [hF.map.noCell 0] at hc0; simp at hc0
  have hgl : g < w.heap.size := World.block_lt_of_cell? w ⟨g, 0, none⟩ (by rw [hc0])
  have hgS : ¬ AddS F mb ov g := fun h => h.elim hgF fun h => h.elim hgm fun h => hg h.symm
  have HX := Lib.hid hx
  have HXB := Lib.hid hxb
  obtain ⟨n, hn⟩ : ∃ n, xs.length = n := ⟨_, rfl⟩
  have Hn := Lib.hid hn
  rw [hn] at hc hlen hpos ⊢
  clear hx hxb hn hc0
  go_enter Try.func62, Try.ntmps62
  go_wp2
  go_loopw [8] (fun i wr => ∃ (k : Nat) (ov' : Value), k ≤ n ∧ i = .int .i64 k ∧ FoundAt B wr F mb ov' (addO o (xs.take k)) ∧ (ov'.ownBlock = ov.ownBlock ∨ ∃ k, ov'.ownBlock = some k ∧ w.heap.size ≤ k) ∧ Chg (AddS F mb ov) w wr) (fun i _ => n - (intOf i).toNat)
  case atStart => exact ⟨0, ov, by omega, rfl, hF, .inl rfl, Chg.refl _ _⟩
  case round =>
    obtain ⟨k, ov', hk, rfl, hFr, hloc, hch⟩ := hrel
    by_cases hlt : k < n
    · have a1 := (hch.cell (p := ⟨g, k, none⟩) hgl hgS).trans (HX.out k (by rw [Hn.out]; exact hlt))
      have hbx := HXB.out _ (getD_mem (o := xs) (j := k) (by rw [Hn.out]; exact hlt))
      have Ht := Lib.hid (addO_take (o := o) (l := xs) (k := k) (by rw [Hn.out]; exact hlt))
      have hol : (addO o (xs.take k)).length ≤ o.length + k := by have := addO_len o (xs.take k); simp at this; omega
      generalize xs.getD k 0 = x at *
      obtain ⟨o', ho'⟩ : ∃ o', addO o (xs.take k) = o' := ⟨_, rfl⟩
      rw [ho'] at hFr Ht hol
      clear ho'
      have b0 : (0 : Int) ≤ (k : Int) := by omega
      have b1 : (k : Int) < (n : Int) := by omega
      have M1 := rank_any F mb _ ov' o' x wr hFr.blk hFr.map hbx
      by_cases hr : rankV o' x = -2
      · rw [hr] at M1
        obtain ⟨hno, he1⟩ := add1_out hr
        go_wp2_with fail
        refine M1.mono ?_
        rintro e y ⟨rfl, rfl⟩
        clear M1
        go_upto_region 4 with fail
        obtain ⟨oa, ocap, hov⟩ := own_slice hFr.own
        have Hov := Lib.hid hov
        have hF0 : wr.cell? ⟨F, 0, none⟩ = some ov' := hFr.blk.cell 0
        have hF1 : wr.cell? ⟨F, 1, none⟩ = some (.map (some mb)) := hFr.blk.cell 1
        rw [hov] at hF0
        refine wp_region_noPanic ?_
        refine wp_region_held_drew (S := fun y => y.cell? ⟨F, 0, none⟩ = some (.slice oa o'.length ocap) ∧ y.cell? ⟨F, 1, none⟩ = some (.map (some mb))) (by kernel_rfl) ⟨hF0, hF1⟩ (fun hS => ?_)
        clear hF0 hF1
        first
        | (refine wpAnyH_take (i := 0) (v := ?_) rfl (by kernel_rfl) (by kernel_rfl) (by kernel_rfl) (fun _ _ _ h => h) (Or.inl ⟨by rfl, ?_⟩) hS ?_; rotate_left; (· (intro y hy; (try dsimp only at hy); go_simp; try with_reducible rfl)); try simp only [Act.put, List.setIfInBounds_toArray, List.set_cons_zero, List.set_cons_succ, List.getElem_toArray, List.getElem_cons_zero, List.getElem_cons_succ])
        | (refine wpAnyH_take (i := 0) (v := undef) rfl (by kernel_rfl) (by kernel_rfl) (by kernel_rfl) (fun _ _ _ h => h) (Or.inr ⟨by rfl, rfl⟩) hS ?_; try simp only [Act.put, List.setIfInBounds_toArray, List.set_cons_zero, List.set_cons_succ, List.getElem_toArray, List.getElem_cons_zero, List.getElem_cons_succ])
        first
        | (refine wpAnyH_take (i := 1) (v := ?_) rfl (by kernel_rfl) (by kernel_rfl) (by kernel_rfl) (fun _ _ _ h => h) (Or.inl ⟨by rfl, ?_⟩) hS ?_; rotate_left; (· (intro y hy; (try dsimp only at hy); go_simp; try with_reducible rfl)); try simp only [Act.put, List.setIfInBounds_toArray, List.set_cons_zero, List.set_cons_succ, List.getElem_toArray, List.getElem_cons_zero, List.getElem_cons_succ])
        | (refine wpAnyH_take (i := 1) (v := undef) rfl (by kernel_rfl) (by kernel_rfl) (by kernel_rfl) (fun _ _ _ h => h) (Or.inr ⟨by rfl, rfl⟩) hS ?_; try simp only [Act.put, List.setIfInBounds_toArray, List.set_cons_zero, List.set_cons_succ, List.getElem_toArray, List.getElem_cons_zero, List.getElem_cons_succ])
        first
        | (refine wpAnyH_take (i := 2) (v := ?_) rfl (by kernel_rfl) (by kernel_rfl) (by kernel_rfl) (fun _ _ _ h => h) (Or.inl ⟨by rfl, ?_⟩) hS ?_; rotate_left; (· (intro y hy; (try dsimp only at hy); go_simp; try with_reducible rfl)); try simp only [Act.put, List.setIfInBounds_toArray, List.set_cons_zero, List.set_cons_succ, List.getElem_toArray, List.getElem_cons_zero, List.getElem_cons_succ])
        | (refine wpAnyH_take (i := 2) (v := undef) rfl (by kernel_rfl) (by kernel_rfl) (by kernel_rfl) (fun _ _ _ h => h) (Or.inr ⟨by rfl, rfl⟩) hS ?_; try simp only [Act.put, List.setIfInBounds_toArray, List.set_cons_zero, List.set_cons_succ, List.getElem_toArray, List.getElem_cons_zero, List.getElem_cons_succ])
        first
        | (refine wpAnyH_take (i := 3) (v := ?_) rfl (by kernel_rfl) (by kernel_rfl) (by kernel_rfl) (fun _ _ _ h => h) (Or.inl ⟨by rfl, ?_⟩) hS ?_; rotate_left; (· (intro y hy; (try dsimp only at hy); go_simp; try with_reducible rfl)); try simp only [Act.put, List.setIfInBounds_toArray, List.set_cons_zero, List.set_cons_succ, List.getElem_toArray, List.getElem_cons_zero, List.getElem_cons_succ])
        | (refine wpAnyH_take (i := 3) (v := undef) rfl (by kernel_rfl) (by kernel_rfl) (by kernel_rfl) (fun _ _ _ h => h) (Or.inr ⟨by rfl, rfl⟩) hS ?_; try simp only [Act.put, List.setIfInBounds_toArray, List.set_cons_zero, List.set_cons_succ, List.getElem_toArray, List.getElem_cons_zero, List.getElem_cons_succ])
        first
        | (refine wpAnyH_take (i := 4) (v := ?_) rfl (by kernel_rfl) (by kernel_rfl) (by kernel_rfl) (fun _ _ _ h => h) (Or.inl ⟨by rfl, ?_⟩) hS ?_; rotate_left; (· (intro y hy; (try dsimp only at hy); go_simp; try with_reducible rfl)); try simp only [Act.put, List.setIfInBounds_toArray, List.set_cons_zero, List.set_cons_succ, List.getElem_toArray, List.getElem_cons_zero, List.getElem_cons_succ])
        | (refine wpAnyH_take (i := 4) (v := undef) rfl (by kernel_rfl) (by kernel_rfl) (by kernel_rfl) (fun _ _ _ h => h) (Or.inr ⟨by rfl, rfl⟩) hS ?_; try simp only [Act.put, List.setIfInBounds_toArray, List.set_cons_zero, List.set_cons_succ, List.getElem_toArray, List.getElem_cons_zero, List.getElem_cons_succ])
        first
        | (refine wpAnyH_take (i := 5) (v := ?_) rfl (by kernel_rfl) (by kernel_rfl) (by kernel_rfl) (fun _ _ _ h => h) (Or.inl ⟨by rfl, ?_⟩) hS ?_; rotate_left; (· (intro y hy; (try dsimp only at hy); go_simp; try with_reducible rfl)); try simp only [Act.put, List.setIfInBounds_toArray, List.set_cons_zero, List.set_cons_succ, List.getElem_toArray, List.getElem_cons_zero, List.getElem_cons_succ])
        | (refine wpAnyH_take (i := 5) (v := undef) rfl (by kernel_rfl) (by kernel_rfl) (by kernel_rfl) (fun _ _ _ h => h) (Or.inr ⟨by rfl, rfl⟩) hS ?_; try simp only [Act.put, List.setIfInBounds_toArray, List.set_cons_zero, List.set_cons_succ, List.getElem_toArray, List.getElem_cons_zero, List.getElem_cons_succ])
        first
        | (refine wpAnyH_take (i := 6) (v := ?_) rfl (by kernel_rfl) (by kernel_rfl) (by kernel_rfl) (fun _ _ _ h => h) (Or.inl ⟨by rfl, ?_⟩) hS ?_; rotate_left; (· (intro y hy; (try dsimp only at hy); go_simp; try with_reducible rfl)); try simp only [Act.put, List.setIfInBounds_toArray, List.set_cons_zero, List.set_cons_succ, List.getElem_toArray, List.getElem_cons_zero, List.getElem_cons_succ])
        | (refine wpAnyH_take (i := 6) (v := undef) rfl (by kernel_rfl) (by kernel_rfl) (by kernel_rfl) (fun _ _ _ h => h) (Or.inr ⟨by rfl, rfl⟩) hS ?_; try simp only [Act.put, List.setIfInBounds_toArray, List.set_cons_zero, List.set_cons_succ, List.getElem_toArray, List.getElem_cons_zero, List.getElem_cons_succ])
        first
        | (refine wpAnyH_take (i := 7) (v := ?_) rfl (by kernel_rfl) (by kernel_rfl) (by kernel_rfl) (fun _ _ _ h => h) (Or.inl ⟨by rfl, ?_⟩) hS ?_; rotate_left; (· (intro y hy; (try dsimp only at hy); go_simp; try with_reducible rfl)); try simp only [Act.put, List.setIfInBounds_toArray, List.set_cons_zero, List.set_cons_succ, List.getElem_toArray, List.getElem_cons_zero, List.getElem_cons_succ])
        | (refine wpAnyH_take (i := 7) (v := undef) rfl (by kernel_rfl) (by kernel_rfl) (by kernel_rfl) (fun _ _ _ h => h) (Or.inr ⟨by rfl, rfl⟩) hS ?_; try simp only [Act.put, List.setIfInBounds_toArray, List.set_cons_zero, List.set_cons_succ, List.getElem_toArray, List.getElem_cons_zero, List.getElem_cons_succ])
        first
        | (refine wpAnyH_take (i := 8) (v := ?_) rfl (by kernel_rfl) (by kernel_rfl) (by kernel_rfl) (fun _ _ _ h => h) (Or.inl ⟨by rfl, ?_⟩) hS ?_; rotate_left; (· (intro y hy; (try dsimp only at hy); go_simp; try with_reducible rfl)); try simp only [Act.put, List.setIfInBounds_toArray, List.set_cons_zero, List.set_cons_succ, List.getElem_toArray, List.getElem_cons_zero, List.getElem_cons_succ])
        | (refine wpAnyH_take (i := 8) (v := undef) rfl (by kernel_rfl) (by kernel_rfl) (by kernel_rfl) (fun _ _ _ h => h) (Or.inr ⟨by rfl, rfl⟩) hS ?_; try simp only [Act.put, List.setIfInBounds_toArray, List.set_cons_zero, List.set_cons_succ, List.getElem_toArray, List.getElem_cons_zero, List.getElem_cons_succ])
        first
        | (refine wpAnyH_take (i := 9) (v := ?_) rfl (by kernel_rfl) (by kernel_rfl) (by kernel_rfl) (fun _ _ _ h => h) (Or.inl ⟨by rfl, ?_⟩) hS ?_; rotate_left; (· (intro y hy; (try dsimp only at hy); go_simp; try with_reducible rfl)); try simp only [Act.put, List.setIfInBounds_toArray, List.set_cons_zero, List.set_cons_succ, List.getElem_toArray, List.getElem_cons_zero, List.getElem_cons_succ])
        | (refine wpAnyH_take (i := 9) (v := undef) rfl (by kernel_rfl) (by kernel_rfl) (by kernel_rfl) (fun _ _ _ h => h) (Or.inr ⟨by rfl, rfl⟩) hS ?_; try simp only [Act.put, List.setIfInBounds_toArray, List.set_cons_zero, List.set_cons_succ, List.getElem_toArray, List.getElem_cons_zero, List.getElem_cons_succ])
        refine wpAnyH_ready (rs := [10]) (by kernel_rfl) (by simp) ?_
        refine AllReadyH.cons (o := _) rfl (fun K hK => ?_) AllReadyH.nil
        have hFl := hFr.blk.lt
        have hFm : ¬ F = mb := fun e => by have h := hFr.map.noCell 0; rw [← e, hFr.blk.cell 0] at h; simp at h
        refine step_imap_store (w := wr.drew) (b := mb) (n := o'.length) (g := rk o') (key := x) (val := (o'.length : Int)) rfl _ _ _ rfl rfl (hFr.map.chg ((Chg.refl (fun _ => False) wr).drew) (fun h => h)) (by unfold maxLen; omega) rfl rfl hbx (by omega) ?_
        intro w2 hm2 hc2
        replace hc2 : Chg (· = mb) wr w2 := ((Chg.refl (· = mb) wr).drew).trans hc2
        have hk2 := hFr.blk.chg hc2 hFm
        have hown2 : w2.ownsRow B 3 1 ov' o'.length (o'.map (Value.int .i64)) := by
          refine ⟨hFr.own.1, hFr.own.2.imp id ?_⟩
          rintro ⟨g, cap, cur, e, hb, hh, r⟩
          refine ⟨g, cap, cur, e, hb, (hc2.block g (Array.getElem?_eq_some_iff.1 hh).1 fun e => ?_).trans hh, r⟩
          subst e
          obtain ⟨D, ⟨es, clock, hb', _⟩, _⟩ := hFr.map
          rw [hh] at hb'
          injection hb' with hb'
          cases hb'
        refine hK.out _ _ (⟨by rw [hk2.cell 0, hov]; rfl, hk2.cell 1⟩) (fun hS => ?_)
        clear hK K
        try simp only [Act.put, List.setIfInBounds_toArray, List.set_cons_zero, List.set_cons_succ]
        refine wpAnyH_done (by kernel_rfl) ?_ _
        refine NoPanic.normal ?_
        clear hS
        replace hm2 := hm2.same (rk_snoc hno)
        have hF0 : w2.cell? ⟨F, 0, none⟩ = some ov' := hk2.cell 0
        have hfz : w2.frozen? ⟨F, 0, none⟩ = false := hk2.free 0
        have hwB : B ≤ w2.heap.size := by have := hch.size; have := hc2.size; omega
        have hol2 : o'.length + 1 ≤ 1000001 := by omega
        have hA2 := hown2.alloc (.cells #[.int .i64 x] 3)
        have hkA := hk2.alloc (.cells #[.int .i64 x] 3)
        have hmA := hm2.on ((Below.refl w2.heap.size w2).alloc (Nat.le_refl _) (.cells #[.int .i64 x] 3))
        have hw2A : w2.heap.size ≤ (w2.alloc (.cells #[.int .i64 x] 3)).heap.size := by simp
        have hcA := (Chg.refl (AddS F mb ov) w2).alloc (.cells #[.int .i64 x] 3)
        clear hov hFr
        go_wp2_with (at_builtin; refine wpList_append_own_at _ rfl _ _ 23 rfl B 3 i0 (.int .i64 0) 1 8 Try.underlying23 hi hz0 hz1 hz2 rfl (by decide) ov' _ _ rfl hA2 ⟨w2.heap.size, 0, none⟩ 1 1 [.int .i64 x] rfl rfl (cell_one_new _ _ _) (by simp [Value.oneCell']) (by unfold maxLen; omega) (by omega) (by simp; omega) ?_; intro v' w3 hown3 hgr hnil hat; obtain ⟨oa3, oc3, rfl⟩ := own_slice hown3; have hk3 := hkA.grown hA2 (by decide) hgr; have hm3 := hmA.grown hA2 hgr; have hF3 : w3.cell? ⟨F, 0, none⟩ = some ov' := hk3.cell 0; have hfz3 : w3.frozen? ⟨F, 0, none⟩ = false := hk3.free 0)
        obtain ⟨v', hv'⟩ : ∃ v, Value.slice oa3 (o'.length + 1) oc3 = v := ⟨_, rfl⟩
        have Hv' := Lib.hid hv'
        rw [hv'] at hown3 hat
        clear hv'
        have hk4 := hk3.set 0 v'
        have hw3 := hgr.size
        have hc3 : Chg (AddS F mb ov) w (w3.setCell ⟨F, 0, none⟩ v') := by
          have h1 : Chg (AddS F mb ov) w w2 := hch.trans (hc2.mono fun k e => .inr (.inl e))
          refine ((h1.trans hcA).step (T := fun k => some k = ov'.ownBlock) (Chg.of_grown hgr fun k e => e) fun k e => ?_).setCell (.inl (.inl rfl)) v'
          rcases hloc with h | ⟨k', h, hk'⟩
          · exact .inl (.inr (.inr (by rw [e, h])))
          · rw [h] at e
            injection e with e
            exact .inr (by omega)
        have hl3 : v'.ownBlock = ov.ownBlock ∨ ∃ k, v'.ownBlock = some k ∧ w.heap.size ≤ k := by
          rcases hat with h | h
          · rw [h]; exact hloc
          · exact .inr ⟨_, h, by have := hch.size; have := hc2.size; omega⟩
        have hnb : v'.ownBlock ≠ some F := fun e => by
          obtain ⟨_, cur, hh⟩ := own_block hown3 e.symm
          have := hk3
          unfold BlkIs at this
          rw [this] at hh
          injection hh with hh
          injection hh with _ hh
          exact absurd hh (by decide)
        have hk5 : BlkIs (w3.setCell ⟨F, 0, none⟩ (.slice oa3 (o'.length + 1) oc3)) F _ _ := hk3.set 0 _
        rw [← Hv'.out] at hk4 hc3 hl3 hown3 hnb
        clear Hv' hat v' hk5
        go_wp2
        go_roundw
        case rel =>
          refine ⟨k + 1, _, by omega, by go_num, ?_, hl3, hc3⟩
          rw [Ht.out, he1]
          refine ⟨hk4, ?_, ?_⟩
          · rw [List.length_append]
            exact hm3.chg ((Chg.refl (· = F) w3).setCell (p := ⟨F, 0, none⟩) (.inl rfl) _) (fun e => hFm e.symm)
          · rw [List.length_append, List.map_append]
            refine ⟨hown3.1, hown3.2.imp id ?_⟩
            rintro ⟨g, cap, cur, e, hb, hh, r⟩
            refine ⟨g, cap, cur, e, hb, (Below.heap_setCell w3 ⟨F, 0, none⟩ _ g fun e' => hnb ?_).trans hh, r⟩
            subst e'
            rw [e]; rfl
        case measure => simp [intOf]; omega
      · have e1 := add1_in hr
        have hrb : ((rankV o' x : Int) != -2) = true := by simpa using hr
        generalize rankV o' x = r at *
        go_wp2_with fail
        refine M1.mono ?_
        rintro e y ⟨rfl, rfl⟩
        go_wp2
        go_roundw
        case rel => exact ⟨k + 1, ov', by omega, by go_num, by rw [Ht.out, e1]; exact hFr, hloc, hch⟩
        case measure => simp [intOf]; omega
    · obtain rfl : k = n := by omega
      rw [List.take_of_length_le (by rw [Hn.out]; omega)] at hFr
      go_wp2
      go_end0
      exact ⟨_, rfl, hFr, hloc, hch⟩

end Go.Proofs.Ytceedbkacbaaiaa
