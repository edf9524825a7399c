/- What the laws of layer 8 have in common: two lists compared, an object's words, their look at the chapter's example. No condition but that lists are there to be read. -/
import Derived.Test.YtpmkkmjnneikpaaMoverWalk
import Derived.Test.YtpmkkmjnneikpaaHeadFit
import Derived.Test.YtpmkkmjnneikpaaPick
import Derived.Test.YtpmkkmjnneikpaaOpen
namespace Go.Proofs.Ytpmkkmjnneikpaa
open Go.ChangeShapes Go.WideShapes Go.ChangeAt Go.RowKit

set_option linter.unusedSimpArgs false
set_option linter.unusedVariables false

/-- A slice that is read as these numbers. -/
def ReadsAs (k : IntKind) (w : World) (v : Value) (xs : List Int) : Prop :=
  xs.length ≤ maxLen ∧ ((xs = [] ∧ ∃ c, v = .slice none 0 c) ∨ ∃ g c, v = .slice (some ⟨g, 0, none⟩) xs.length c ∧ xs.length ≤ c ∧ g < w.heap.size ∧ ∀ j, j < xs.length → w.cell? ⟨g, j, none⟩ = some (.int k (xs.getD j 0)))
theorem ReadsAs.below {k : IntKind} {w x : World} {v : Value} {xs : List Int} (h : ReadsAs k w v xs) (hb : Below w.heap.size w x) : ReadsAs k x v xs :=
  ⟨h.1, h.2.imp id fun ⟨g, c, e, hc, hg, r⟩ => ⟨g, c, e, hc, Nat.lt_of_lt_of_le hg hb.size, fun j hj => (hb.cell (p := ⟨g, j, none⟩) hg).trans (r j hj)⟩⟩
theorem ReadsAs.drew {k : IntKind} {w : World} {v : Value} {xs : List Int} (h : ReadsAs k w v xs) : ReadsAs k w.drew v xs := h
theorem readsAs_of_owns {w : World} {base n : Nat} {e : TypeId} {v : Value} {k : IntKind} {l : List Int} (h : w.ownsRow base e 1 v n (l.map (Value.int k))) : ReadsAs k w v l := by
  have hl : l.length = n := by simpa using h.1
  by_cases hn : 0 < n
  · obtain ⟨g, cap, rfl, _, hg, hc, hm, _, r⟩ := own_cell h hn
    exact ⟨by omega, .inr ⟨g, cap, by rw [hl], by omega, hg, fun j hj => r j (by omega)⟩⟩
  · obtain rfl : n = 0 := by omega
    have h0 : l = [] := List.eq_nil_of_length_eq_zero hl
    subst h0
    rcases h.2 with ⟨rfl, _⟩ | ⟨g, cap, cur, rfl, _, hh, hc, hm, _⟩
    · exact ⟨by simp, .inl ⟨rfl, 0, rfl⟩⟩
    · exact ⟨by simp, .inr ⟨g, cap, rfl, by simp, lt_of_block hh, fun j hj => by simp at hj⟩⟩
theorem valsN_eq (l : List Nat) : valsN l = (l.map fun x : Nat => (x : Int)).map (Value.int .i64) := by unfold valsN; simp

set_option maxRecDepth 100000 in
theorem ints_nil (a a' : Option Addr) (c c' : Nat) (w : World) :
    Calls Try.prog 15 #[.slice a 0 c, .slice a' 0 c'] w fun e w' => e = .returned (.bool true) ∧ Below w.heap.size w w' := by
  go_enter Try.func15, Try.ntmps15
  go_wp2
  go_loopw [5] (fun i wr => i = .int .i64 0 ∧ Below w.heap.size w wr) (fun i _ => 0)
  case atStart => exact ⟨rfl, Below.refl _ _⟩
  case round =>
    obtain ⟨rfl, hB⟩ := hrel
    go_wp2
    go_ret
    exact ⟨rfl, hB⟩

set_option maxRecDepth 100000 in
set_option maxHeartbeats 1000000 in
theorem ints_same (v u : Value) (xs : List Int) (w : World) (hv : ReadsAs .i64 w v xs) (hu : ReadsAs .i64 w u xs) :
    Calls Try.prog 15 #[v, u] w fun e w' => e = .returned (.bool true) ∧ Below w.heap.size w w' := by
  obtain ⟨hm, hv⟩ := hv
  obtain ⟨_, hu⟩ := hu
  by_cases h0 : xs = []
  · subst h0
    obtain ⟨a, c, rfl⟩ : ∃ a c, v = .slice a 0 c := by
      rcases hv with ⟨_, c, rfl⟩ | ⟨g, c, rfl, _⟩
      · exact ⟨_, _, rfl⟩
      · exact ⟨_, _, rfl⟩
    obtain ⟨a', c', rfl⟩ : ∃ a c, u = .slice a 0 c := by
      rcases hu with ⟨_, c, rfl⟩ | ⟨g, c, rfl, _⟩
      · exact ⟨_, _, rfl⟩
      · exact ⟨_, _, rfl⟩
    exact ints_nil a a' c c' w
  · rcases hv with ⟨h, _⟩ | ⟨g, c, rfl, hc, hg, hr⟩
    · exact absurd h h0
    · rcases hu with ⟨h, _⟩ | ⟨g', c', rfl, hc', hg', hr'⟩
      · exact absurd h h0
      · unfold maxLen at hm
        have HR := Lib.hid hr
        have HR' := Lib.hid hr'
        obtain ⟨n, hn⟩ : ∃ n, xs.length = n := ⟨_, rfl⟩
        have Hn := Lib.hid hn
        rw [hn] at hm hc hc' ⊢
        clear hr hr' hn h0
        go_enter Try.func15, Try.ntmps15
        go_wp2
        go_loopw [5] (fun i wr => ∃ k : Nat, k ≤ n ∧ i = .int .i64 k ∧ Below w.heap.size w wr) (fun i _ => n - (intOf i).toNat)
        case atStart => exact ⟨0, by omega, rfl, Below.refl _ _⟩
        case round =>
          obtain ⟨k, hk, rfl, hB⟩ := hrel
          by_cases hlt : k < n
          · have a1 := (hB.cell (p := ⟨g, k, none⟩) hg).trans (HR.out k (by rw [Hn.out]; exact hlt))
            have a2 := (hB.cell (p := ⟨g', k, none⟩) hg').trans (HR'.out k (by rw [Hn.out]; exact hlt))
            generalize xs.getD k 0 = x at *
            have b0 : (0 : Int) ≤ (k : Int) := by omega
            have b1 : (k : Int) < (n : Int) := by omega
            go_wp2
            go_quiet (fail)
            go_wp2
            go_roundw
            case rel => exact ⟨k + 1, by omega, by go_num, drewN_below hB _⟩
            case measure => simp [intOf]; omega
          · go_wp2
            go_ret
            exact ⟨rfl, hB⟩

/-- An object's words, but the first one. -/
def wordsL (l : List Int) (a k : Nat) : List Int := (List.range k).map fun j => l.getD (a + 1 + j) 0
theorem wordsL_length (l : List Int) (a k : Nat) : (wordsL l a k).length = k := by unfold wordsL; simp
theorem wordsL_snoc (l : List Int) (a k : Nat) : (wordsL l a k).map (Value.int .u64) ++ [.int .u64 (l.getD (a + 1 + k) 0)] = (wordsL l a (k + 1)).map (Value.int .u64) := by unfold wordsL; rw [List.range_succ]; simp
theorem wordsL_at {l : List Int} {a k j : Nat} (h : j < k) : (wordsL l a k).getD j 0 = l.getD (a + 1 + j) 0 := by unfold wordsL; simp [List.getD, h]

theorem infoU64 : (Try.prog.info? 40).map (fun i => (i.zero, i.size, i.bytes)) = some (some (.int .u64 0), 1, 8) := by kernel_rfl

set_option maxRecDepth 100000 in
set_option maxHeartbeats 2000000 in
theorem words_at (P b : Nat) (l : List Int) (a p d : Nat) (wk fn fr : Bool) (w : World) (h : ArenaAt 59 w P b l) (o : ObjIs l a p d wk fn fr) :
    Calls Try.prog 14 #[.pointer (some ⟨P, 0, none⟩), .int .i64 a] w fun e w' => ∃ sv, e = .returned sv ∧ w'.ownsRow w.heap.size 40 1 sv (2 + p + d) ((wordsL l a (2 + p + d)).map (Value.int .u64)) ∧ Below w.heap.size w w' := by
  obtain ⟨i0, hi, hz0, hz1, hz2⟩ := info_parts infoU64
  have hlt := h.lt
  have hl := h.len
  have hr := o.room
  have o1 := o.ptrs
  have o2 := o.data
  have HS := shape_at a w h o
  obtain ⟨n, hn⟩ : ∃ n, 2 + p + d = n := ⟨_, rfl⟩
  have i1 : IntKind.i64.wrap (3 + (p : Int)) = 3 + (p : Int) := IntWalk.i64_in _ (by omega)
  have i2 : IntKind.i64.wrap (3 + (p : Int) + (d : Int)) = ((n + 1 : Nat) : Int) := by rw [IntWalk.i64_in _ (by omega)]; omega
  have hln : a + 1 + n ≤ l.length := by omega
  have hn19 : n ≤ 18 := by omega
  rw [hn]
  clear o hn hr
  go_enter Try.func14, Try.ntmps14
  go_wp2_with fail
  refine HS.mono ?_
  rintro e x ⟨rfl, hb⟩
  clear HS
  have k5 := BlkIs.new x #[.int .i64 p, .int .i64 d, .bool wk, .bool fn] 32
  have hB := hb.alloc hb.size (.cells #[.int .i64 p, .int .i64 d, .bool wk, .bool fn] 32)
  have hx := hb.size
  go_wp2
  obtain ⟨q, hq⟩ : ∃ q, x.heap.size = q := ⟨_, rfl⟩
  generalize x.alloc (.cells #[.int .i64 p, .int .i64 d, .bool wk, .bool fn] 32) = wo at *
  rw [hq] at k5 hx ⊢
  have hA0 := h.below hB hlt.1 hlt.2
  have hqs := k5.lt
  obtain ⟨B2, hB2⟩ : ∃ B2, wo.heap.size = B2 := ⟨_, rfl⟩
  have HB2 := Lib.hid hB2
  have hqb : q < B2 := by omega
  clear hB2 hq hb
  go_loopw [8, 9] (fun v i wr => ∃ m : Nat, m ≤ n ∧ i = .int .i64 (m + 1 : Nat) ∧ wr.ownsRow B2 40 1 v m ((wordsL l a m).map (Value.int .u64)) ∧ Chg (fun c => B2 ≤ c) wo wr) (fun _ i _ => n + 1 - (intOf i).toNat)
  case atStart => exact ⟨0, by omega, rfl, World.ownsRow_nil _ _ _ _, Chg.refl _ _⟩
  case round =>
    obtain ⟨m, hm, rfl, hown, hch⟩ := hrel
    have hA := hA0.chg hch (by have := HB2.out; have := hA0.lt; omega) (by have := HB2.out; have := hA0.lt; omega)
    have hbase : B2 ≤ wr.heap.size := by have := hch.size; have := HB2.out; omega
    have k6 := k5.chg hch (by omega)
    obtain ⟨c0, c1⟩ : wr.cell? ⟨q, 0, none⟩ = some (.int .i64 p) ∧ wr.cell? ⟨q, 1, none⟩ = some (.int .i64 d) := ⟨k6.cell 0, k6.cell 1⟩
    by_cases hmn : m < n
    · have M1 := load_there (a + 1 + m) _ hA (by omega)
      have Hs := Lib.hid (wordsL_snoc l a m)
      obtain ⟨y, hy⟩ : ∃ y, l.getD (a + 1 + m) 0 = y := ⟨_, rfl⟩
      have i3 : IntKind.i64.wrap ((a : Int) + ((m + 1 : Nat) : Int)) = ((a + 1 + m : Nat) : Int) := by rw [IntWalk.i64_in _ (by omega)]; omega
      have i4 : m + 1 < n + 1 := by omega
      rw [hy] at M1 Hs
      clear hy
      obtain ⟨m1, hm1⟩ : ∃ m1, m + 1 = m1 := ⟨_, rfl⟩
      have Hm1 := Lib.hid hm1
      rw [hm1] at i3 i4
      rw [hm1]
      obtain ⟨n1, hn1⟩ : ∃ n1, n + 1 = n1 := ⟨_, rfl⟩
      rw [hn1] at i4 i2
      have hmm : m1 ≤ 20 := by omega
      clear hm1 hn1
      go_wp2_with fail
      refine M1.mono ?_
      rintro e w' ⟨rfl, rfl⟩
      clear M1
      go_wp2_with (at_builtin; refine wpList_append_own _ rfl _ _ 39 rfl B2 40 i0 (.int .u64 0) 1 8 Try.underlying39 hi hz0 hz1 hz2 rfl (by decide) u8 _ _ rfl (hown.alloc _) ⟨wr.heap.size, 0, none⟩ 1 1 [.int .u64 y] rfl rfl (cell_one_new _ _ _) (by simp [Value.oneCell']) (by unfold maxLen; omega) (by omega) (by simp; omega) ?_; intro v' w2 hown2 hgr hnil)
      go_roundw
      case rel => exact ⟨m + 1, by omega, by rw [← Hm1.out]; go_num, by rw [Hs.out] at hown2; exact hown2, (hch.alloc _).trans (chg_of_append (hown.alloc _) hgr)⟩
      case measure => have := Hm1.out; simp [intOf]; omega
    · obtain rfl : m = n := by omega
      obtain ⟨m1, hm1⟩ : ∃ m1, m + 1 = m1 := ⟨_, rfl⟩
      rw [hm1] at i2 ⊢
      clear hm1
      obtain ⟨sa, sc, rfl⟩ : ∃ a c, u8 = .slice a m c := by
        rcases hown.2 with ⟨rfl, h⟩ | ⟨g, cap, cur, rfl, _⟩
        · exact ⟨none, 0, by rw [h]⟩
        · exact ⟨_, _, rfl⟩
      go_wp2
      go_ret
      exact ⟨_, rfl, own_mono hown (by have := HB2.out; have := hB.size; omega), hB.trans (hch.below (fun k e => by have := HB2.out; have := hB.size; omega) hB.size)⟩

def exOb : Nat → Ob := fun _ => ⟨1, 1, false, false, false⟩
def exA : List Int := madeL (List.replicate 60 0) 1 1 1 false false 3
def exB : List Int := copyL exA 1 20 5
set_option maxRecDepth 100000 in
theorem exA_obj : ObjIs exA 1 1 1 false false false := ⟨by decide, by decide, by decide, by decide, by decide⟩
set_option maxRecDepth 100000 in
theorem exB_obj : ObjIs exB 20 1 1 false false false := ⟨by decide, by decide, by decide, by decide, by decide⟩
theorem exB_obs : ObsAt exB 20 exOb 1 := fun k hk => by obtain rfl : k = 0 := by omega
                                                        exact exB_obj
set_option maxRecDepth 100000 in
theorem exB_tells : exB.length = 60 ∧ exB.getD 1 0 = 82 ∧ exB.getD 22 0 = 3 := by decide

set_option maxRecDepth 100000 in
set_option maxHeartbeats 4000000 in
theorem awake_yes (w : World) : Calls Try.prog 5 #[] w fun e w' => e = .returned (.bool true) ∧ Below w.heap.size w w' := by
  go_enter Try.func5, Try.ntmps5
  go_wp2_with fail
  refine (new_any 60 _ (by omega) (by omega)).mono ?_
  rintro e x1 ⟨P, b, rfl, hA, hP, hb, hB⟩
  have M1 : Calls Try.prog 17 #[.pointer (some ⟨P, 0, none⟩), .int .i64 1, .agg #[.int .i64 1, .int .i64 1, .bool false, .bool false], .int .i64 3] x1 fun e w' => e = .returned (.int .i64 0) ∧ ArenaAt 59 w' P b exA ∧ Chg (· = b) x1 w' :=
    make_yes 1 3 x1 hA (by decide) (by decide) (by decide) (by decide) (by decide)
  clear hA hP
  go_wp2_with fail
  refine M1.mono ?_
  rintro e x2 ⟨rfl, hA, hc⟩
  replace hB := hB.trans (hc.below (fun k e => by omega) hB.size)
  clear M1 hc
  go_wp2_with fail
  refine (make_ok 20 30 ⟨by omega, by omega, by omega, by omega⟩ _).mono ?_
  rintro e x3 ⟨rfl, hn⟩
  replace hA := hA.below hn hA.lt.1 hA.lt.2
  replace hB := hB.trans (hn.mono hB.size)
  clear hn
  have k3 := BlkIs.new x3 #[.int .i64 20, .int .i64 30, .int .i64 20] 36
  have hl := hA.lt
  have hn := (Below.refl x3.heap.size x3).alloc (Nat.le_refl _) (.cells #[.int .i64 20, .int .i64 30, .int .i64 20] 36)
  replace hA := hA.below hn hl.1 hl.2
  replace hB := hB.trans (hn.mono hB.size)
  have nb3 : ¬ x3.heap.size = b := by omega
  have M1 : ∀ y, ArenaAt 59 y P b exA → Calls Try.prog 12 #[.pointer (some ⟨P, 0, none⟩), .int .i64 1, .agg #[.int .i64 20, .int .i64 30, .int .i64 20]] y fun e w' => e = .returned (.tuple #[.agg #[.int .i64 20, .int .i64 30, .int .i64 26], .int .i64 20, .int .i64 0]) ∧ ArenaAt 59 w' P b exB ∧ Chg (· = b) y w' := fun y hy =>
    copy_yes 1 20 30 20 y hy exA_obj ⟨by omega, by omega, by omega, by omega⟩ (by omega) (by decide) (by decide)
  clear hn hl
  go_wp2_with fail
  generalize x3.heap.size = q3 at *
  generalize x3.alloc (.cells #[.int .i64 20, .int .i64 30, .int .i64 20] 36) = x at *
  refine (M1 _ hA).mono ?_
  rintro e x4 ⟨rfl, hA2, hc⟩
  replace k3 := k3.chg hc nb3
  replace hB := hB.trans (hc.below (fun k e => by omega) hB.size)
  clear M1 hc hA k3
  have k5 := BlkIs.new x4 #[.int .i64 20, .int .i64 30, .int .i64 26] 36
  have hl := hA2.lt
  have hn := (Below.refl x4.heap.size x4).alloc (Nat.le_refl _) (.cells #[.int .i64 20, .int .i64 30, .int .i64 26] 36)
  replace hA2 := hA2.below hn hl.1 hl.2
  replace hB := hB.trans (hn.mono hB.size)
  clear hn hl
  have M1 : ∀ y, ArenaAt 59 y P b exB → Calls Try.prog 13 #[.pointer (some ⟨P, 0, none⟩), .int .i64 1] y fun e w' => e = .returned (.tuple #[.int .i64 20, .bool true]) ∧ Below y.heap.size y w' := fun y hy =>
    at_gone 1 20 y hy (by rw [exB_tells.1]; decide) (by decide) (by decide) exB_tells.2.1
  go_wp2_with fail
  generalize x4.heap.size = q5 at *
  generalize x4.alloc (.cells #[.int .i64 20, .int .i64 30, .int .i64 26] 36) = x at *
  refine (M1 _ hA2).mono ?_
  rintro e x5 ⟨rfl, hn⟩
  replace k5 := k5.more hn (Nat.le_refl _)
  replace hA2 := hA2.below hn hA2.lt.1 hA2.lt.2
  replace hB := hB.trans (hn.mono hB.size)
  clear M1 hn
  have M1 : Calls Try.prog 18 #[.pointer (some ⟨P, 0, none⟩), .int .i64 20] x5 fun e w' => e = .returned (.tuple #[.int .i64 3, .int .i64 0]) ∧ Below x5.heap.size x5 w' := by
    have := serial_at 20 x5 hA2 exB_obj (by rw [exB_tells.2.2]; decide)
    rw [exB_tells.2.2] at this
    exact this
  go_wp2_with fail
  refine M1.mono ?_
  rintro e x6 ⟨rfl, hn⟩
  replace k5 := k5.more hn (Nat.le_refl _)
  replace hA2 := hA2.below hn hA2.lt.1 hA2.lt.2
  replace hB := hB.trans (hn.mono hB.size)
  clear M1 hn
  obtain ⟨⟨c0, c1, c2⟩, f0, f1, f2⟩ := blk3 k5
  go_wp2_with fail
  clear c0 c1 c2 f0 f1 f2
  refine (used_ok 20 30 26 ⟨by omega, by omega, by omega, by omega⟩ _).mono ?_
  rintro e x7 ⟨rfl, hn⟩
  replace k5 := k5.more hn (Nat.le_refl _)
  replace hA2 := hA2.below hn hA2.lt.1 hA2.lt.2
  replace hB := hB.trans (hn.mono hB.size)
  clear hn
  have M1 : Calls Try.prog 16 #[.pointer (some ⟨P, 0, none⟩), .agg #[.int .i64 20, .int .i64 30, .int .i64 26]] x7 fun e w' => ∃ sv, e = .returned sv ∧ w'.ownsRow x7.heap.size 3 1 sv 1 ([20].map (Value.int .i64)) ∧ Below x7.heap.size x7 w' :=
    walk_any P b 20 30 1 exB exOb x7 ⟨by omega, by omega, by decide, by decide⟩ exB_obs hA2
  obtain ⟨⟨c0, c1, c2⟩, f0, f1, f2⟩ := blk3 k5
  go_wp2_with fail
  clear c0 c1 c2 f0 f1 f2 k5
  refine M1.mono ?_
  rintro e x8 ⟨sv, rfl, hown, hn⟩
  replace hB := hB.trans (hn.mono hB.size)
  have hr1 := (readsAs_of_owns hown).below ((Below.refl x8.heap.size x8).alloc (Nat.le_refl _) (.cells #[.int .i64 20] 3))
  have hr2 : ReadsAs .i64 (x8.alloc (.cells #[.int .i64 20] 3)) (.slice (some ⟨x8.heap.size, 0, none⟩) 1 1) [20] := ⟨by decide, .inr ⟨_, _, rfl, by decide, by simp, fun j hj => by
    have : j = 0 := by simp at hj; omega
    subst this; simp⟩⟩
  replace hB := hB.alloc hB.size (.cells #[.int .i64 20] 3)
  clear M1 hn hown hA2
  go_wp2_with fail
  refine (ints_same _ _ _ _ hr1 hr2).mono ?_
  rintro e x9 ⟨rfl, hn⟩
  replace hB := hB.trans (hn.mono hB.size)
  clear hr1 hr2 hn
  go_wp2
  go_ret
  exact ⟨rfl, hB⟩

end Go.Proofs.Ytpmkkmjnneikpaa
