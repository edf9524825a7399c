/- Contracts of the document's own answer for layer 2: the same as package arena's. Condition: the arena is one (ArenaAt), the numbers are int's. -/
import Derived.Test.YtolfnjmmnaiecaaArenaLaw
import Derived.Test.YtolfnjmmnaiecaaOwnRow
namespace Go.Proofs.Ytolfnjmmnaiecaa.ref
open Go.ChangeShapes Go.WideShapes Go.ChangeAt Go.RowKit

set_option linter.unusedSimpArgs false
set_option linter.unusedVariables false

theorem new_yes (n : Int) (w : World) (h0 : 1 ≤ n) (h1 : n ≤ 65536) :
    Calls Try.prog 11 #[.int .i64 n] w fun e w' => e = .returned (.tuple #[.pointer (some ⟨w.heap.size + 1, 0, none⟩), .int .i64 0]) ∧ ArenaAt 50 w' (w.heap.size + 1) w.heap.size (List.replicate n.toNat 0) ∧ w'.heap.size = w.heap.size + 2 ∧ Below w.heap.size w w' := by
  obtain ⟨i0, hi, hz0, hz1, hz2⟩ := info_parts infoW
  obtain ⟨n, rfl⟩ : ∃ k : Nat, n = k := ⟨n.toNat, by omega⟩
  have hmk := fun W => make_row (P := Try.prog) 42 32 i0 (.int .u64 0) Try.underlying42 hi hz0 .i64 .i64 n n (Nat.le_refl _) (by rw [hz2]; omega) (by omega) W
  simp only [hz1, Nat.mul_one] at hmk
  go_enter Try.func11, Try.ntmps11
  go_wp2
  go_ret2
  refine ⟨rfl, ⟨?_, ?_, by simp; omega, fun z hz => ?_⟩, by simp, ((Below.refl _ _).alloc (Nat.le_refl _) _).alloc (by simp) _⟩
  · have := BlkIs.new (w.alloc (.cells (madeCells #[Value.int .u64 0] n) 32)) #[.slice (some ⟨w.heap.size, 0, none⟩) n n] 50
    simpa using this
  · have h := BlkIs.new w (madeCells #[Value.int .u64 0] n) 32
    rw [Int.toNat_natCast, ← made_ints]
    exact h.alloc _
  · have := List.eq_of_mem_replicate hz
    omega

theorem new_no (n : Int) (w : World) (h : n < 1 ∨ 65536 < n) :
    Calls Try.prog 11 #[.int .i64 n] w fun e w' => e = .returned (.tuple #[.pointer none, .int .i64 1]) ∧ w = w' := by
  rcases h with h | h
  · go_enter Try.func11, Try.ntmps11
    go_wp2
    go_ret2
    exact ⟨rfl, rfl⟩
  · have h' : ¬ n < 1 := by omega
    go_enter Try.func11, Try.ntmps11
    go_wp2
    go_ret2
    exact ⟨rfl, rfl⟩

theorem len_any {p b : Nat} {l : List Int} (w : World) (h : ArenaAt 50 w p b l) :
    Calls Try.prog 22 #[.pointer (some ⟨p, 0, none⟩)] w fun e w' => e = .returned (.int .i64 (l.length : Nat)) ∧ w = w' := by
  have hc := h.slot
  have hl := h.len
  clear h
  go_enter Try.func22, Try.ntmps22
  go_wp2
  go_ret
  exact ⟨rfl, rfl⟩

theorem has_any {p b : Nat} {l : List Int} (a n : Int) (w : World) (h : ArenaAt 50 w p b l) (a0 : -9223372036854775808 ≤ a) (a1 : a ≤ 9223372036854775807) (n0 : -9223372036854775808 ≤ n) (n1 : n ≤ 9223372036854775807) :
    Calls Try.prog 24 #[.pointer (some ⟨p, 0, none⟩), .int .i64 a, .int .i64 n] w fun e w' => e = .returned (.bool (fitsB l.length a n)) ∧ w = w' := by
  have hl := h.len
  have hs := h.slot
  clear h
  by_cases h1 : 0 ≤ a
  · have d1 : decide (0 ≤ a) = true := decide_eq_true h1
    by_cases h2 : 0 ≤ n
    · have d2 : decide (0 ≤ n) = true := decide_eq_true h2
      by_cases h3 : a ≤ (l.length : Int)
      · have d3 : decide (a ≤ (l.length : Int)) = true := decide_eq_true h3
        by_cases h4 : n ≤ (l.length : Int) - a
        · have d4 : decide (n ≤ (l.length : Int) - a) = true := decide_eq_true h4
          rw [fitsB_of h1 h2 (by omega)]
          go_enter Try.func24, Try.ntmps24
          go_wp2
          go_ret
          exact ⟨rfl, rfl⟩
        · have d4 : decide (n ≤ (l.length : Int) - a) = false := decide_eq_false h4
          rw [fitsB_not (by omega)]
          go_enter Try.func24, Try.ntmps24
          go_wp2
          go_ret
          exact ⟨rfl, rfl⟩
      · have d3 : decide (a ≤ (l.length : Int)) = false := decide_eq_false h3
        rw [fitsB_not (by omega)]
        go_enter Try.func24, Try.ntmps24
        go_wp2
        go_ret
        exact ⟨rfl, rfl⟩
    · have d2 : decide (0 ≤ n) = false := decide_eq_false h2
      rw [fitsB_not (by omega)]
      go_enter Try.func24, Try.ntmps24
      go_wp2
      go_ret
      exact ⟨rfl, rfl⟩
  · have d1 : decide (0 ≤ a) = false := decide_eq_false h1
    rw [fitsB_not (by omega)]
    go_enter Try.func24, Try.ntmps24
    go_wp2
    go_ret
    exact ⟨rfl, rfl⟩

theorem load_any {p b : Nat} {l : List Int} (a : Int) (w : World) (h : ArenaAt 50 w p b l) (a0 : -9223372036854775808 ≤ a) (a1 : a ≤ 9223372036854775807) :
    Calls Try.prog 20 #[.pointer (some ⟨p, 0, none⟩), .int .i64 a] w fun e w' => e = .returned (.tuple #[.int .u64 (loadV l a), .int .i64 (errV l.length a 1)]) ∧ w = w' := by
  have hc := h.slot
  have hl := h.len
  by_cases hf : fitsB l.length a 1 = true
  · obtain ⟨h1, _, h3⟩ := fitsB_yes hf
    have hv : loadV l a = l.getD a.toNat 0 := by unfold loadV; rw [if_pos hf]
    have he : errV l.length a 1 = 0 := by unfold errV; rw [if_pos hf]
    rw [hv, he]
    obtain ⟨k, rfl⟩ : ∃ k : Nat, a = k := ⟨a.toNat, by omega⟩
    rw [Int.toNat_natCast]
    have hx := h.cell (i := k) (by omega)
    clear hv he
    go_enter Try.func20, Try.ntmps20
    go_wp2_with ((with_reducible refine (has_any _ _ _ h a0 a1 (by decide) (by decide)).mono ?_); rintro e w' ⟨rfl, rfl⟩)
    go_ret2
    exact ⟨rfl, rfl⟩
  · have hf : fitsB l.length a 1 = false := by simpa using hf
    have hv : loadV l a = 0 := by unfold loadV; rw [hf]; rfl
    have he : errV l.length a 1 = 20 := by unfold errV; rw [hf]; rfl
    rw [hv, he]
    clear hv he
    go_enter Try.func20, Try.ntmps20
    go_wp2_with ((with_reducible refine (has_any _ _ _ h a0 a1 (by decide) (by decide)).mono ?_); rintro e w' ⟨rfl, rfl⟩)
    go_ret2
    exact ⟨rfl, rfl⟩

theorem fill_any {p b : Nat} {l : List Int} (a n x : Int) (w : World) (h : ArenaAt 50 w p b l) (a0 : -9223372036854775808 ≤ a) (a1 : a ≤ 9223372036854775807) (n0 : -9223372036854775808 ≤ n) (n1 : n ≤ 9223372036854775807) (hx : 0 ≤ x ∧ x ≤ 18446744073709551615) :
    Calls Try.prog 16 #[.pointer (some ⟨p, 0, none⟩), .int .i64 a, .int .i64 n, .int .u64 x] w fun e w' => e = .returned (.int .i64 (errV l.length a n)) ∧ ArenaAt 50 w' p b (fillV l a n x) ∧ Chg (· = b) w w' := by
  have hl := h.len
  by_cases hf : fitsB l.length a n = true
  · obtain ⟨h1, h2, h3⟩ := fitsB_yes hf
    have hv : fillV l a n x = layL l a.toNat (fun _ => x) n.toNat := by unfold fillV; rw [if_pos hf]
    have he : errV l.length a n = 0 := by unfold errV; rw [if_pos hf]
    rw [hv, he]
    obtain ⟨a, rfl⟩ : ∃ k : Nat, a = k := ⟨a.toNat, by omega⟩
    obtain ⟨n, rfl⟩ : ∃ k : Nat, n = k := ⟨n.toNat, by omega⟩
    rw [Int.toNat_natCast, Int.toNat_natCast]
    clear hv he
    go_enter Try.func16, Try.ntmps16
    go_wp2_with ((with_reducible refine (has_any _ _ _ h a0 a1 n0 n1).mono ?_); rintro e w' ⟨rfl, rfl⟩)
    go_loopw [10] (fun i wr => ∃ k : Nat, k ≤ n ∧ i = .int .i64 k ∧ ArenaAt 50 wr p b (layL l a (fun _ => x) k) ∧ Chg (· = b) w wr) (fun i _ => n - (intOf i).toNat)
    case atStart => exact ⟨0, Nat.zero_le _, rfl, h, Chg.refl _ _⟩
    case round =>
      obtain ⟨k, hk, rfl, ha, hch⟩ := hrel
      have hs := ha.slot
      have hfr := ha.row.free (a + k)
      rw [layL_length] at hs
      by_cases hlt : k < n
      · have hx' := ha.cell (i := a + k) (by rw [layL_length]; omega)
        have hset := ha.set (by decide) (i := a + k) hx
        have hch' := hch.setCell (p := ⟨b, a + k, none⟩) (.inl rfl) (.int .u64 x)
        clear ha
        go_wp2
        go_roundw
        case rel => exact ⟨k + 1, by omega, by go_num, hset, hch'⟩
        case measure => simp [intOf]; omega
      · obtain rfl : k = n := by omega
        go_wp2
        go_ret
        exact ⟨rfl, ha, hch⟩
  · have hf : fitsB l.length a n = false := by simpa using hf
    have hv : fillV l a n x = l := by unfold fillV; rw [hf]; rfl
    have he : errV l.length a n = 20 := by unfold errV; rw [hf]; rfl
    rw [hv, he]
    clear hv he
    go_enter Try.func16, Try.ntmps16
    go_wp2_with ((with_reducible refine (has_any _ _ _ h a0 a1 n0 n1).mono ?_); rintro e w' ⟨rfl, rfl⟩)
    go_ret
    exact ⟨rfl, h, Chg.refl _ _⟩

theorem store_any {p b : Nat} {l : List Int} (a x : Int) (w : World) (h : ArenaAt 50 w p b l) (a0 : -9223372036854775808 ≤ a) (a1 : a ≤ 9223372036854775807) (hx : 0 ≤ x ∧ x ≤ 18446744073709551615) :
    Calls Try.prog 14 #[.pointer (some ⟨p, 0, none⟩), .int .i64 a, .int .u64 x] w fun e w' => e = .returned (.int .i64 (errV l.length a 1)) ∧ ArenaAt 50 w' p b (fillV l a 1 x) ∧ Chg (· = b) w w' := by
  go_enter Try.func14, Try.ntmps14
  go_wp2_with ((with_reducible refine (fill_any _ _ _ _ h a0 a1 (by decide) (by decide) hx).mono ?_); rintro e w' ⟨rfl, ha, hch⟩)
  go_ret
  exact ⟨rfl, ha, hch⟩

set_option maxHeartbeats 1000000 in
theorem move_yes {p b : Nat} {l : List Int} (a c n : Nat) (w : World) (h : ArenaAt 50 w p b l) (h1 : a + n ≤ l.length) (h2 : c + n ≤ l.length) (hpos : 0 < n) :
    Calls Try.prog 18 #[.pointer (some ⟨p, 0, none⟩), .int .i64 a, .int .i64 c, .int .i64 n] w fun e w' => e = .returned (.int .i64 0) ∧ ArenaAt 50 w' p b (layL l c (fun j => l.getD (a + j) 0) n) ∧ Chg (· = b) w w' := by
  obtain ⟨i0, hi, hz0, hz1, hz2⟩ := info_parts infoW
  have hl := h.len
  have H := Lib.hid h
  have hlt := h.lt
  have F1 := Lib.hid (fitsB_of (len := l.length) (a := a) (n := n) (by omega) (by omega) (by omega))
  have F2 := Lib.hid (fitsB_of (len := l.length) (a := c) (n := n) (by omega) (by omega) (by omega))
  have hs := h.slot
  have s1 : IntKind.i64.wrap ((a : Int) + n) = (a : Int) + n := IntWalk.i64_in _ (by omega)
  have s3 : ((a : Int) + n).toNat = a + n := by omega
  have a0 : (0 : Int) ≤ a := by omega
  have c0 : (0 : Int) ≤ c := by omega
  have n0 : (0 : Int) ≤ n := by omega
  have a1 : (a : Int) + n ≤ l.length := by omega
  have a2 : (a : Int) ≤ (a : Int) + n := by omega
  have a3 : (0 : Int) ≤ (a : Int) + n := by omega
  have hpb : p ≠ b := h.ne (by decide)
  have Hc := Lib.hid (move_cells (c := c) w b _ h.row h1)
  clear h
  go_enter Try.func18, Try.ntmps18
  go_wp2_with fail
  refine (has_any _ _ _ H.out (by omega) (by omega) (by omega) (by omega)).mono ?_
  rintro e w' ⟨rfl, rfl⟩
  rw [F1.out]
  go_wp2_with fail
  refine (has_any _ _ _ H.out (by omega) (by omega) (by omega) (by omega)).mono ?_
  rintro e w' ⟨rfl, rfl⟩
  rw [F2.out]
  by_cases hn : 0 < n
  · have hna : ¬ l.length = a := by omega
    have HX := Lib.hid (rfl : (List.range n).map (fun j => Value.int .u64 (l.getD (a + j) 0)) = (List.range n).map (fun j => Value.int .u64 (l.getD (a + j) 0)))
    go_wp2_with (at_builtin; refine wpList_append_own _ rfl (.const (.slice none 0 0)) (.tmp 35) 42 rfl w.heap.size 32 i0 (.int .u64 0) 1 8 Try.underlying42 hi hz0 hz1 hz2 rfl (by decide) (.slice none 0 0) 0 [] rfl (World.ownsRow_nil _ _ _ _) ⟨b, a, none⟩ n (l.length - a) ((List.range n).map (fun j => Value.int .u64 (l.getD (a + j) 0))) (by first | rfl | (simp; done)) (by simp) Hc.out (by intro v hv; obtain ⟨j, _, rfl⟩ := List.mem_map.1 hv; rfl) (by unfold maxLen; omega) (by omega) (Nat.le_refl _) ?_; intro v' w2 hown2 hgr hnil)
    have hown3 : w2.ownsRow w.heap.size 32 1 v' n (((List.range n).map fun j => l.getD (a + j) 0).map (Value.int .u64)) := by
      rw [List.map_map, show ((Value.int IntKind.u64) ∘ fun j => l.getD (a + j) 0) = fun j => Value.int IntKind.u64 (l.getD (a + j) 0) from rfl]; simpa using hown2
    obtain ⟨g, cap, rfl, hg1, hg2, hg3, hg4, hg5, hgc⟩ := own_cell hown3 hn
    have Hg : Hid (∀ j, j < n → w2.cell? ⟨g, j, none⟩ = some (.int .u64 (l.getD (a + j) 0))) := fun j hj => (hgc j hj).trans (by simp [List.getD, hj])
    have hc2 : Chg (· = b) w w2 := Chg.of_grown hgr fun k hk => by simp [Value.ownBlock] at hk
    have hc2' : Chg (fun _ => False) w w2 := Chg.of_grown hgr fun k hk => by simp [Value.ownBlock] at hk
    have ha2 := H.out.chg hc2' (fun h => h) (fun h => h)
    have hgb : g ≠ b := by omega
    clear hown2 hown3 hgr hgc hnil hc2' hs
    go_loopw [12] (fun i wr => ∃ k : Nat, k ≤ n ∧ i = .int .i64 k ∧ ArenaAt 50 wr p b (layL l c (fun j => l.getD (a + j) 0) k) ∧ Chg (· = b) w2 wr) (fun i _ => n - (intOf i).toNat)
    case atStart => exact ⟨0, Nat.zero_le _, rfl, ha2, Chg.refl _ _⟩
    case round =>
      obtain ⟨k, hk, rfl, ha, hch⟩ := hrel
      have hs := ha.slot
      have hfr := ha.row.free (c + k)
      rw [layL_length] at hs
      by_cases hlt : k < n
      · have hx' := ha.cell (i := c + k) (by rw [layL_length]; omega)
        have hg := (hch.cell (p := ⟨g, k, none⟩) hg2 hgb).trans (Hg.out k hlt)
        have hset : ArenaAt 50 (wr.setCell ⟨b, c + k, none⟩ (.int .u64 (l.getD (a + k) 0))).drew p b (layL l c (fun j => l.getD (a + j) 0) (k + 1)) := (ha.set (by decide) (i := c + k) (getD_fits H.out.fits (a + k))).drew
        have hst := ((Chg.refl (· = b) wr).setCell (p := ⟨b, c + k, none⟩) (.inl rfl) (.int .u64 (l.getD (a + k) 0))).drew
        have hch' := hch.trans hst
        have hq1 := (hst.cell (p := ⟨p, 0, none⟩) ha.lt.1 hpb).trans hs
        have hq2 := (hst.cell (p := ⟨g, k, none⟩) (Nat.lt_of_lt_of_le hg2 hch.size) hgb).trans hg
        have k0 : (0 : Int) ≤ k := by omega
        have k1 : (k : Int) < n := by omega
        have k2 : (0 : Int) ≤ (c : Int) + k := by omega
        have k3 : (c : Int) + k < l.length := by omega
        have k4 : IntKind.i64.wrap ((c : Int) + k) = (c : Int) + k := IntWalk.i64_in _ (by omega)
        have k5 : ((c : Int) + k).toNat = c + k := by omega
        generalize l.getD (a + k) 0 = y at hg hset hch' hq1 hq2
        have Hq1 := Lib.hid hq1
        have Hq2 := Lib.hid hq2
        clear ha hst hq1 hq2
        go_wp2
        go_region_held3 (fun x => x.cell? ⟨p, 0, none⟩ = some (.slice (some ⟨b, 0, none⟩) l.length l.length) ∧ x.cell? ⟨g, k, none⟩ = some (.int .u64 y)) (first | (go_keep; done) | exact ⟨Hq1.out, Hq2.out⟩) (fail)
        go_wp2
        go_roundw
        case rel => exact ⟨k + 1, by omega, by go_num, hset, hch'⟩
        case measure => simp [intOf]; omega
      · obtain rfl : k = n := by omega
        go_wp2
        go_ret
        exact ⟨rfl, ha, hc2.trans hch⟩
  · exact absurd hpos hn

set_option maxHeartbeats 1000000 in
theorem move_nil {p b : Nat} {l : List Int} (a c : Nat) (w : World) (h : ArenaAt 50 w p b l) (h1 : a ≤ l.length) (h2 : c ≤ l.length) :
    Calls Try.prog 18 #[.pointer (some ⟨p, 0, none⟩), .int .i64 a, .int .i64 c, .int .i64 0] w fun e w' => e = .returned (.int .i64 0) ∧ ArenaAt 50 w' p b l ∧ Chg (· = b) w w' := by
  obtain ⟨i0, hi, hz0, hz1, hz2⟩ := info_parts infoW
  have hl := h.len
  have H := Lib.hid h
  have F1 := Lib.hid (fitsB_of (len := l.length) (a := a) (n := 0) (by omega) (by omega) (by omega))
  have F2 := Lib.hid (fitsB_of (len := l.length) (a := c) (n := 0) (by omega) (by omega) (by omega))
  have hs := h.slot
  have a0 : (0 : Int) ≤ a := by omega
  have a1 : (a : Int) ≤ l.length := by omega
  have s1 : IntKind.i64.wrap (a : Int) = a := IntWalk.i64_in _ (by omega)
  clear h
  by_cases ea : l.length = a
  all_goals try subst ea
  all_goals
    go_enter Try.func18, Try.ntmps18
    go_wp2_with fail
    refine (has_any _ _ _ H.out (by omega) (by omega) (by omega) (by omega)).mono ?_
    rintro e w' ⟨rfl, rfl⟩
    rw [F1.out]
    go_wp2_with fail
    refine (has_any _ _ _ H.out (by omega) (by omega) (by omega) (by omega)).mono ?_
    rintro e w' ⟨rfl, rfl⟩
    rw [F2.out]
    go_wp2_with (at_builtin; refine wpList_append_own _ rfl (.const (.slice none 0 0)) (.tmp 35) 42 rfl w.heap.size 32 i0 (.int .u64 0) 1 8 Try.underlying42 hi hz0 hz1 hz2 rfl (by decide) (.slice none 0 0) 0 [] rfl (World.ownsRow_nil _ _ _ _) _ 0 _ [] (by first | rfl | (simp; done)) (by simp) (by intro j v hv; simp at hv) (by simp) (by unfold maxLen; omega) (by omega) (Nat.le_refl _) ?_; intro v' w2 hown2 hgr hnil)
    have hc2 : Chg (· = b) w w2 := Chg.of_grown hgr fun k hk => by simp [Value.ownBlock] at hk
    have hc2' : Chg (fun _ => False) w w2 := Chg.of_grown hgr fun k hk => by simp [Value.ownBlock] at hk
    have ha2 := H.out.chg hc2' (fun h => h) (fun h => h)
    clear hown2 hgr hnil hc2' hs
    go_loopw [12] (fun i wr => i = .int .i64 0 ∧ ArenaAt 50 wr p b l ∧ Chg (· = b) w wr) (fun _ _ => 0)
    case atStart => exact ⟨rfl, ha2, hc2⟩
    case round =>
      obtain ⟨rfl, ha, hch⟩ := hrel
      go_wp2
      go_ret
      exact ⟨rfl, ha, hch⟩

theorem move_any {p b : Nat} {l : List Int} (a c n : Int) (w : World) (h : ArenaAt 50 w p b l) (a0 : -9223372036854775808 ≤ a) (a1 : a ≤ 9223372036854775807) (c0 : -9223372036854775808 ≤ c) (c1 : c ≤ 9223372036854775807) (n0 : -9223372036854775808 ≤ n) (n1 : n ≤ 9223372036854775807) :
    Calls Try.prog 18 #[.pointer (some ⟨p, 0, none⟩), .int .i64 a, .int .i64 c, .int .i64 n] w fun e w' => e = .returned (.int .i64 (err2V l.length a c n)) ∧ ArenaAt 50 w' p b (moveV l a c n) ∧ Chg (· = b) w w' := by
  cases f1 : fitsB l.length a n
  · rw [moveV_no (by rw [f1]; rfl), err2V_no (by rw [f1]; rfl)]
    have F1 := Lib.hid f1
    clear f1
    go_enter Try.func18, Try.ntmps18
    go_wp2_with fail
    refine (has_any _ _ _ h a0 a1 n0 n1).mono ?_
    rintro e w' ⟨rfl, rfl⟩
    rw [F1.out]
    go_wp2_with fail
    refine (has_any _ _ _ h c0 c1 n0 n1).mono ?_
    rintro e w' ⟨rfl, rfl⟩
    go_wp2
    go_ret
    exact ⟨rfl, h, Chg.refl _ _⟩
  · cases f2 : fitsB l.length c n
    · rw [moveV_no (by rw [f1, f2]; rfl), err2V_no (by rw [f1, f2]; rfl)]
      have F1 := Lib.hid f1
      have F2 := Lib.hid f2
      clear f1 f2
      go_enter Try.func18, Try.ntmps18
      go_wp2_with fail
      refine (has_any _ _ _ h a0 a1 n0 n1).mono ?_
      rintro e w' ⟨rfl, rfl⟩
      rw [F1.out]
      go_wp2_with fail
      refine (has_any _ _ _ h c0 c1 n0 n1).mono ?_
      rintro e w' ⟨rfl, rfl⟩
      rw [F2.out]
      go_wp2
      go_ret
      exact ⟨rfl, h, Chg.refl _ _⟩
    · rw [moveV_yes f1 f2, err2V_yes f1 f2]
      obtain ⟨h1, h2, h3⟩ := fitsB_yes f1
      obtain ⟨h4, _, h5⟩ := fitsB_yes f2
      obtain ⟨a, rfl⟩ : ∃ k : Nat, a = k := ⟨a.toNat, by omega⟩
      obtain ⟨c, rfl⟩ : ∃ k : Nat, c = k := ⟨c.toNat, by omega⟩
      obtain ⟨n, rfl⟩ : ∃ k : Nat, n = k := ⟨n.toNat, by omega⟩
      simp only [Int.toNat_natCast]
      by_cases hn : 0 < n
      · exact move_yes a c n w h (by omega) (by omega) hn
      · obtain rfl : n = 0 := by omega
        exact move_nil a c w h (by simpa using h3) (by simpa using h5)

end Go.Proofs.Ytolfnjmmnaiecaa.ref
