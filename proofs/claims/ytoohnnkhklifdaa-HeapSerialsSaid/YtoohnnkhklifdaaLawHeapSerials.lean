/- For every raw shapes and order: objects have serials 1, 2, 3 and so on, as they were laid, and keep them, wherever they are moved: the law HeapSerials returns true and its arguments read as they did. No condition. -/
import Derived.Test.YtoohnnkhklifdaaBase4
import Derived.Test.YtoohnnkhklifdaaBase2
import Derived.Test.YtoohnnkhklifdaaBase1
namespace Go.Proofs.Ytoohnnkhklifdaa.heapSerials
open Go.ChangeShapes Go.WideShapes Go.ChangeAt Go.RowKit
set_option linter.unusedVariables false
set_option linter.unusedSimpArgs false

def rawKs : List (Option IntKind) := [some .i64, some .i64, some .i64]
/-- Three raw numbers at a place of the list. -/
theorem raw_at {w : World} {a : Option Addr} {len cap : Nat} {V : Nat → Nat → Value} (h : IsFlat rawKs w a len cap V) {i : Nat} (hi : i < len) :
    ∃ b off, ∃ x0 x1 x2 : Int, a = some ⟨b, off, none⟩ ∧ b < w.heap.size ∧ len ≤ cap ∧ (w.cell? ⟨b, off + i * 3, none⟩ = some (.int .i64 x0) ∧ w.cell? ⟨b, off + i * 3 + 1, none⟩ = some (.int .i64 x1) ∧ w.cell? ⟨b, off + i * 3 + 2, none⟩ = some (.int .i64 x2)) ∧
      (-9223372036854775808 ≤ x0 ∧ x0 ≤ 9223372036854775807) ∧ (-9223372036854775808 ≤ x1 ∧ x1 ≤ 9223372036854775807) ∧ (-9223372036854775808 ≤ x2 ∧ x2 ≤ 9223372036854775807) := by
  rcases h with ⟨h0, _⟩ | ⟨b, off, e, hlt, h1, h2, hc⟩
  · omega
  · obtain ⟨c0, k0⟩ := hc i (by omega) 0 (some .i64) rfl
    obtain ⟨c1, k1⟩ := hc i (by omega) 1 (some .i64) rfl
    obtain ⟨c2, k2⟩ := hc i (by omega) 2 (some .i64) rfl
    obtain ⟨e0, f0⟩ := k0.int
    obtain ⟨e1, f1⟩ := k1.int
    obtain ⟨e2, f2⟩ := k2.int
    rw [e0] at c0
    rw [e1] at c1
    rw [e2] at c2
    exact ⟨b, off, _, _, _, e, hlt, h1, ⟨c0, c1, c2⟩, bounds_i64 f0, bounds_i64 f1, bounds_i64 f2⟩
theorem IsRow.read {w : World} {a : Option Addr} {len cap : Nat} {zs : List Int} (hr : IsRow .i64 w a len cap zs) : len ≤ 9223372036854775807 ∧ ∀ k, k < len → ∃ b off x, a = some ⟨b, off, none⟩ ∧ b < w.heap.size ∧ w.cell? ⟨b, off + k, none⟩ = some (.int .i64 x) ∧ -9223372036854775808 ≤ x ∧ x ≤ 9223372036854775807 := by
  rcases hr with ⟨h0, _⟩ | ⟨b, off, rfl, hb, hl, hm, hz, hc, hw⟩
  · exact ⟨by omega, fun k hk => by omega⟩
  · refine ⟨by unfold maxLen at hm; omega, fun k hk => ?_⟩
    have hkz : k < zs.length := by omega
    have hg : zs.getD k 0 ∈ zs := by rw [List.getD_eq_getElem?_getD, List.getElem?_eq_getElem hkz]; exact List.getElem_mem hkz
    have := bounds_i64 (hw _ hg)
    exact ⟨b, off, _, rfl, hb, hc k hkz, this.1, this.2⟩

theorem row_cell {y : World} {g n c q : Nat} {l : List Nat} (h : RowIs y (.slice (some ⟨g, 0, none⟩) n c) l) (hq : q < l.length) : y.cell? ⟨g, q, none⟩ = some (.int .i64 (l.getD q 0 : Nat)) := by
  obtain ⟨g', c', e, _, _, _, _, _, hc⟩ := own_cell h (by omega)
  have : g = g' := by injection e with e; injection e with e; injection e
  subst this
  have := hc q hq
  rw [nums_getD hq] at this
  exact this
/-- The heap's blocks, and the list's, are the law's own, and apart. -/
structure Own (n : Nat) (y : World) (H : Nat) (s : Hp) (v : Value) (l : List Nat) : Prop where
  heap : ∃ K, HeapAt y K H s ∧ (∀ k, K k → n ≤ k) ∧ ∀ g, v.ownBlock = some g → ¬ K g
  row : RowIs y v l
  low : ∀ g, v.ownBlock = some g → n ≤ g
theorem Own.on {n : Nat} {y z : World} {H : Nat} {s : Hp} {v : Value} {l : List Nat} (h : Own n y H s v l) (hb : Below y.heap.size y z) : Own n z H s v l := by
  obtain ⟨⟨K, h1, h2, h3⟩, h4, h5⟩ := h
  exact ⟨⟨K, h1.on hb, h2, h3⟩, h4.chg (S := fun _ => False) (Chg.of_below hb (Nat.le_refl _)) fun _ _ h => h, h5⟩
/-- A call of the heap. -/
theorem Own.went {n : Nat} {y : World} {H : Nat} {s s' : Hp} {v : Value} {l : List Nat} (h : Own n y H s v l) (hn : n ≤ y.heap.size) : ∃ K, HeapAt y K H s ∧ ∀ z, Went y K H s' z → Own n z H s' v l ∧ Below n y z := by
  obtain ⟨⟨K, h1, h2, h3⟩, h4, h5⟩ := h
  refine ⟨K, h1, fun z hz => ?_⟩
  obtain ⟨K', g1, g2, g3⟩ := hz
  refine ⟨⟨⟨K', g1, fun k hk => (g2 k hk).elim (h2 k) fun e => Nat.le_trans hn e, fun g e hk => (g2 g hk).elim (h3 g e) fun e' => ?_⟩, h4.chg g3 fun g e => h3 g e, h5⟩, g3.below h2 hn⟩
  have := h4.lt e
  omega
theorem Own.push {n : Nat} {y z : World} {H : Nat} {s : Hp} {v v' : Value} {l l' : List Nat} (h : Own n y H s v l) (hn : n ≤ y.heap.size) (hr : RowIs z v' l') (hg : y.grownBy z v.ownBlock) (hat : v'.ownBlock = v.ownBlock ∨ v'.ownBlock = some y.heap.size) : Own n z H s v' l' ∧ Below n y z := by
  obtain ⟨⟨K, h1, h2, h3⟩, h4, h5⟩ := h
  have hc := Chg.of_grown (S := fun k => some k = v.ownBlock) hg fun _ e => e
  refine ⟨⟨⟨fun k => K k ∧ k < y.heap.size, h1.tight.chg hc fun k hk _ e => h3 k e.symm hk.1, fun k hk => h2 k hk.1, fun g e hk => ?_⟩, hr, fun g e => ?_⟩, hc.below (fun k e => h5 k e.symm) hn⟩
  · rcases hat with e' | e'
    · rw [e'] at e; exact h3 g e hk.1
    · rw [e'] at e; injection e with e; omega
  · rcases hat with e' | e'
    · rw [e'] at e; exact h5 g e
    · rw [e'] at e; injection e with e; omega

set_option maxRecDepth 100000 in
set_option maxHeartbeats 8000000 in
theorem walk (a0 : Option Addr) (len0 cap0 : Nat) (z0 : Nat → Nat → Value) (a1 : Option Addr) (len1 cap1 : Nat) (z1 : List Int) (w : World) (h0 : IsFlat rawKs w a0 len0 cap0 z0) (h1 : IsRow .i64 w a1 len1 cap1 z1) :
    Calls Try.prog 3 #[.slice a0 len0 cap0, .slice a1 len1 cap1] w fun e w' => e = .returned (.bool true) ∧ Below w.heap.size w w' := by
  have H0 := Lib.hid h0
  have hl0 : len0 ≤ 9223372036854775807 := by
    rcases h0 with ⟨e, _⟩ | ⟨b, off, e, hlt, e1, e2, hc⟩
    · omega
    · unfold maxLen at e2; omega
  have hl1 := (IsRow.read h1).1
  have H1 := Lib.hid h1
  clear h0 h1
  obtain ⟨n, hn⟩ : ∃ n, w.heap.size = n := ⟨_, rfl⟩
  have Hn := Lib.hid hn
  rw [hn]
  have N1 := fun x => newH_yes 500 (by omega) (by omega) x
  go_enter Try.func3, Try.ntmps3
  go_wp2_with fail
  refine (awake_yes _).mono ?_
  rintro e x ⟨rfl, hB⟩
  rw [hn] at hB
  clear hn
  go_wp2_with fail
  refine (N1 _).mono ?_
  rintro e y ⟨H, rfl, hH, hb⟩
  have hxn : n ≤ x.heap.size := by have := hB.size; have := Hn.out; omega
  have hO : Own n y H (Hp.new 500) (.slice none 0 0) [] := ⟨⟨_, hH, fun k hk => Nat.le_trans hxn hk.1, fun g e => by simp [Value.ownBlock] at e⟩, World.ownsRow_nil _ _ _ _, fun g e => by simp [Value.ownBlock] at e⟩
  replace hB := hB.trans (hb.mono hxn)
  clear hH hb N1 hxn x
  go_wp2_with fail
  go_loopw [9, 8] (fun i av wr => ∃ (k : Nat) (s : Hp), k ≤ 10 ∧ k ≤ len0 ∧ i = .int .i64 k ∧ Hid (Ph1 k s) ∧ Own n wr H s av s.pn ∧ Below n w wr) (fun i _ _ => 10 - (intOf i).toNat)
  case atStart => exact ⟨0, Hp.new 500, by omega, by omega, rfl, Lib.hid Ph1.start, hO, hB⟩
  case round =>
    clear hO hB
    obtain ⟨k, s, hk, hk0, rfl, hP, hO, hB⟩ := hrel
    have hwr : n ≤ wr.heap.size := by have := hB.size; have := Hn.out; omega
    by_cases hlt : k < len0 ∧ k < 10
    · have d0 : decide ((k : Int) < (len0 : Int)) = true := decide_eq_true (by omega)
      have d1 : decide ((k : Int) < 10) = true := decide_eq_true (by omega)
      obtain ⟨rb, ro, x0, x1, x2, ea, hrb, hcap, ⟨c0, c1, c2⟩, i0, i1, i2⟩ := raw_at H0.out hlt.1
      subst ea
      have hrn : rb < n := by have := Hn.out; omega
      have f0 := (hB.cell (p := ⟨rb, ro + k * 3, none⟩) hrn).trans c0
      have f1 := (hB.cell (p := ⟨rb, ro + k * 3 + 1, none⟩) hrn).trans c1
      have f2 := (hB.cell (p := ⟨rb, ro + k * 3 + 2, none⟩) hrn).trans c2
      obtain ⟨p, d, wk, fn, hF⟩ := fit_sh x0 x1 x2 i0 i1 i2
      have b0 : (0 : Int) ≤ (k : Int) := by omega
      have b1 : (k : Int) < (len0 : Int) := by omega
      clear c0 c1 c2 i0 i1 i2
      go_upto_region 9 with fail
      obtain ⟨Ka, hKa, hWa⟩ := hO.went (s' := s.lay p d wk fn) hwr
      obtain ⟨hP2, hser⟩ := hP.out.lay hlt.2 hF.right hF.ptrs hF.data
      have MA := fun z (hz : HeapAt z Ka H s) => allocA hz hP.out.ok p d wk fn hF.right hF.ptrs hF.data (hP.out.room hlt.2 hF.ptrs hF.data) (by rw [hP.out.se]; omega)
      have hrw : rb < wr.heap.size := by omega
      refine wp_region_noPanic ?_
      refine wp_region_held_drew (S := fun z => z.cell? ⟨rb, ro + k * 3, none⟩ = some (.int .i64 x0) ∧ z.cell? ⟨rb, ro + k * 3 + 1, none⟩ = some (.int .i64 x1) ∧ z.cell? ⟨rb, ro + k * 3 + 2, none⟩ = some (.int .i64 x2)) (by kernel_rfl) ⟨f0, f1, f2⟩ (fun hS => ?_)
      first
      | (refine wpAnyH_take (i := 0) (v := ?_) rfl (by kernel_rfl) (by kernel_rfl) (by kernel_rfl) (fun _ _ _ h => h) (Or.inl ⟨by rfl, ?_⟩) hS ?_; rotate_left; (· (intro y hy; (try dsimp only at hy); go_simp; try with_reducible rfl)); try simp only [Act.put, List.setIfInBounds_toArray, List.set_cons_zero, List.set_cons_succ, List.getElem_toArray, List.getElem_cons_zero, List.getElem_cons_succ])
      | (refine wpAnyH_take (i := 0) (v := undef) rfl (by kernel_rfl) (by kernel_rfl) (by kernel_rfl) (fun _ _ _ h => h) (Or.inr ⟨by rfl, rfl⟩) hS ?_; try simp only [Act.put, List.setIfInBounds_toArray, List.set_cons_zero, List.set_cons_succ, List.getElem_toArray, List.getElem_cons_zero, List.getElem_cons_succ])
      first
      | (refine wpAnyH_take (i := 1) (v := ?_) rfl (by kernel_rfl) (by kernel_rfl) (by kernel_rfl) (fun _ _ _ h => h) (Or.inl ⟨by rfl, ?_⟩) hS ?_; rotate_left; (· (intro y hy; (try dsimp only at hy); go_simp; try with_reducible rfl)); try simp only [Act.put, List.setIfInBounds_toArray, List.set_cons_zero, List.set_cons_succ, List.getElem_toArray, List.getElem_cons_zero, List.getElem_cons_succ])
      | (refine wpAnyH_take (i := 1) (v := undef) rfl (by kernel_rfl) (by kernel_rfl) (by kernel_rfl) (fun _ _ _ h => h) (Or.inr ⟨by rfl, rfl⟩) hS ?_; try simp only [Act.put, List.setIfInBounds_toArray, List.set_cons_zero, List.set_cons_succ, List.getElem_toArray, List.getElem_cons_zero, List.getElem_cons_succ])
      first
      | (refine wpAnyH_take (i := 2) (v := ?_) rfl (by kernel_rfl) (by kernel_rfl) (by kernel_rfl) (fun _ _ _ h => h) (Or.inl ⟨by rfl, ?_⟩) hS ?_; rotate_left; (· (intro y hy; (try dsimp only at hy); go_simp; try with_reducible rfl)); try simp only [Act.put, List.setIfInBounds_toArray, List.set_cons_zero, List.set_cons_succ, List.getElem_toArray, List.getElem_cons_zero, List.getElem_cons_succ])
      | (refine wpAnyH_take (i := 2) (v := undef) rfl (by kernel_rfl) (by kernel_rfl) (by kernel_rfl) (fun _ _ _ h => h) (Or.inr ⟨by rfl, rfl⟩) hS ?_; try simp only [Act.put, List.setIfInBounds_toArray, List.set_cons_zero, List.set_cons_succ, List.getElem_toArray, List.getElem_cons_zero, List.getElem_cons_succ])
      first
      | (refine wpAnyH_take (i := 3) (v := ?_) rfl (by kernel_rfl) (by kernel_rfl) (by kernel_rfl) (fun _ _ _ h => h) (Or.inl ⟨by rfl, ?_⟩) hS ?_; rotate_left; (· (intro y hy; (try dsimp only at hy); go_simp; try with_reducible rfl)); try simp only [Act.put, List.setIfInBounds_toArray, List.set_cons_zero, List.set_cons_succ, List.getElem_toArray, List.getElem_cons_zero, List.getElem_cons_succ])
      | (refine wpAnyH_take (i := 3) (v := undef) rfl (by kernel_rfl) (by kernel_rfl) (by kernel_rfl) (fun _ _ _ h => h) (Or.inr ⟨by rfl, rfl⟩) hS ?_; try simp only [Act.put, List.setIfInBounds_toArray, List.set_cons_zero, List.set_cons_succ, List.getElem_toArray, List.getElem_cons_zero, List.getElem_cons_succ])
      first
      | (refine wpAnyH_take (i := 4) (v := ?_) rfl (by kernel_rfl) (by kernel_rfl) (by kernel_rfl) (fun _ _ _ h => h) (Or.inl ⟨by rfl, ?_⟩) hS ?_; rotate_left; (· (intro y hy; (try dsimp only at hy); go_simp; try with_reducible rfl)); try simp only [Act.put, List.setIfInBounds_toArray, List.set_cons_zero, List.set_cons_succ, List.getElem_toArray, List.getElem_cons_zero, List.getElem_cons_succ])
      | (refine wpAnyH_take (i := 4) (v := undef) rfl (by kernel_rfl) (by kernel_rfl) (by kernel_rfl) (fun _ _ _ h => h) (Or.inr ⟨by rfl, rfl⟩) hS ?_; try simp only [Act.put, List.setIfInBounds_toArray, List.set_cons_zero, List.set_cons_succ, List.getElem_toArray, List.getElem_cons_zero, List.getElem_cons_succ])
      first
      | (refine wpAnyH_take (i := 5) (v := ?_) rfl (by kernel_rfl) (by kernel_rfl) (by kernel_rfl) (fun _ _ _ h => h) (Or.inl ⟨by rfl, ?_⟩) hS ?_; rotate_left; (· (intro y hy; (try dsimp only at hy); go_simp; try with_reducible rfl)); try simp only [Act.put, List.setIfInBounds_toArray, List.set_cons_zero, List.set_cons_succ, List.getElem_toArray, List.getElem_cons_zero, List.getElem_cons_succ])
      | (refine wpAnyH_take (i := 5) (v := undef) rfl (by kernel_rfl) (by kernel_rfl) (by kernel_rfl) (fun _ _ _ h => h) (Or.inr ⟨by rfl, rfl⟩) hS ?_; try simp only [Act.put, List.setIfInBounds_toArray, List.set_cons_zero, List.set_cons_succ, List.getElem_toArray, List.getElem_cons_zero, List.getElem_cons_succ])
      first
      | (refine wpAnyH_take (i := 6) (v := ?_) rfl (by kernel_rfl) (by kernel_rfl) (by kernel_rfl) (fun _ _ _ h => h) (Or.inl ⟨by rfl, ?_⟩) hS ?_; rotate_left; (· (intro y hy; (try dsimp only at hy); go_simp; try with_reducible rfl)); try simp only [Act.put, List.setIfInBounds_toArray, List.set_cons_zero, List.set_cons_succ, List.getElem_toArray, List.getElem_cons_zero, List.getElem_cons_succ])
      | (refine wpAnyH_take (i := 6) (v := undef) rfl (by kernel_rfl) (by kernel_rfl) (by kernel_rfl) (fun _ _ _ h => h) (Or.inr ⟨by rfl, rfl⟩) hS ?_; try simp only [Act.put, List.setIfInBounds_toArray, List.set_cons_zero, List.set_cons_succ, List.getElem_toArray, List.getElem_cons_zero, List.getElem_cons_succ])
      first
      | (refine wpAnyH_take (i := 7) (v := ?_) rfl (by kernel_rfl) (by kernel_rfl) (by kernel_rfl) (fun _ _ _ h => h) (Or.inl ⟨by rfl, ?_⟩) hS ?_; rotate_left; (· (intro y hy; (try dsimp only at hy); go_simp; try with_reducible rfl)); try simp only [Act.put, List.setIfInBounds_toArray, List.set_cons_zero, List.set_cons_succ, List.getElem_toArray, List.getElem_cons_zero, List.getElem_cons_succ])
      | (refine wpAnyH_take (i := 7) (v := undef) rfl (by kernel_rfl) (by kernel_rfl) (by kernel_rfl) (fun _ _ _ h => h) (Or.inr ⟨by rfl, rfl⟩) hS ?_; try simp only [Act.put, List.setIfInBounds_toArray, List.set_cons_zero, List.set_cons_succ, List.getElem_toArray, List.getElem_cons_zero, List.getElem_cons_succ])
      first
      | (refine wpAnyH_take (i := 8) (v := ?_) rfl (by kernel_rfl) (by kernel_rfl) (by kernel_rfl) (fun _ _ _ h => h) (Or.inl ⟨by rfl, ?_⟩) hS ?_; rotate_left; (· (intro y hy; (try dsimp only at hy); go_simp; try with_reducible rfl)); try simp only [Act.put, List.setIfInBounds_toArray, List.set_cons_zero, List.set_cons_succ, List.getElem_toArray, List.getElem_cons_zero, List.getElem_cons_succ])
      | (refine wpAnyH_take (i := 8) (v := undef) rfl (by kernel_rfl) (by kernel_rfl) (by kernel_rfl) (fun _ _ _ h => h) (Or.inr ⟨by rfl, rfl⟩) hS ?_; try simp only [Act.put, List.setIfInBounds_toArray, List.set_cons_zero, List.set_cons_succ, List.getElem_toArray, List.getElem_cons_zero, List.getElem_cons_succ])
      first
      | (refine wpAnyH_take (i := 9) (v := ?_) rfl (by kernel_rfl) (by kernel_rfl) (by kernel_rfl) (fun _ _ _ h => h) (Or.inl ⟨by rfl, ?_⟩) hS ?_; rotate_left; (· (intro y hy; (try dsimp only at hy); go_simp; try with_reducible rfl)); try simp only [Act.put, List.setIfInBounds_toArray, List.set_cons_zero, List.set_cons_succ, List.getElem_toArray, List.getElem_cons_zero, List.getElem_cons_succ])
      | (refine wpAnyH_take (i := 9) (v := undef) rfl (by kernel_rfl) (by kernel_rfl) (by kernel_rfl) (fun _ _ _ h => h) (Or.inr ⟨by rfl, rfl⟩) hS ?_; try simp only [Act.put, List.setIfInBounds_toArray, List.set_cons_zero, List.set_cons_succ, List.getElem_toArray, List.getElem_cons_zero, List.getElem_cons_succ])
      first
      | (refine wpAnyH_take (i := 10) (v := ?_) rfl (by kernel_rfl) (by kernel_rfl) (by kernel_rfl) (fun _ _ _ h => h) (Or.inl ⟨by rfl, ?_⟩) hS ?_; rotate_left; (· (intro y hy; (try dsimp only at hy); go_simp; try with_reducible rfl)); try simp only [Act.put, List.setIfInBounds_toArray, List.set_cons_zero, List.set_cons_succ, List.getElem_toArray, List.getElem_cons_zero, List.getElem_cons_succ])
      | (refine wpAnyH_take (i := 10) (v := undef) rfl (by kernel_rfl) (by kernel_rfl) (by kernel_rfl) (fun _ _ _ h => h) (Or.inr ⟨by rfl, rfl⟩) hS ?_; try simp only [Act.put, List.setIfInBounds_toArray, List.set_cons_zero, List.set_cons_succ, List.getElem_toArray, List.getElem_cons_zero, List.getElem_cons_succ])
      first
      | (refine wpAnyH_take (i := 11) (v := ?_) rfl (by kernel_rfl) (by kernel_rfl) (by kernel_rfl) (fun _ _ _ h => h) (Or.inl ⟨by rfl, ?_⟩) hS ?_; rotate_left; (· (intro y hy; (try dsimp only at hy); go_simp; try with_reducible rfl)); try simp only [Act.put, List.setIfInBounds_toArray, List.set_cons_zero, List.set_cons_succ, List.getElem_toArray, List.getElem_cons_zero, List.getElem_cons_succ])
      | (refine wpAnyH_take (i := 11) (v := undef) rfl (by kernel_rfl) (by kernel_rfl) (by kernel_rfl) (fun _ _ _ h => h) (Or.inr ⟨by rfl, rfl⟩) hS ?_; try simp only [Act.put, List.setIfInBounds_toArray, List.set_cons_zero, List.set_cons_succ, List.getElem_toArray, List.getElem_cons_zero, List.getElem_cons_succ])
      first
      | (refine wpAnyH_take (i := 12) (v := ?_) rfl (by kernel_rfl) (by kernel_rfl) (by kernel_rfl) (fun _ _ _ h => h) (Or.inl ⟨by rfl, ?_⟩) hS ?_; rotate_left; (· (intro y hy; (try dsimp only at hy); go_simp; try with_reducible rfl)); try simp only [Act.put, List.setIfInBounds_toArray, List.set_cons_zero, List.set_cons_succ, List.getElem_toArray, List.getElem_cons_zero, List.getElem_cons_succ])
      | (refine wpAnyH_take (i := 12) (v := undef) rfl (by kernel_rfl) (by kernel_rfl) (by kernel_rfl) (fun _ _ _ h => h) (Or.inr ⟨by rfl, rfl⟩) hS ?_; try simp only [Act.put, List.setIfInBounds_toArray, List.set_cons_zero, List.set_cons_succ, List.getElem_toArray, List.getElem_cons_zero, List.getElem_cons_succ])
      first
      | (refine wpAnyH_take (i := 13) (v := ?_) rfl (by kernel_rfl) (by kernel_rfl) (by kernel_rfl) (fun _ _ _ h => h) (Or.inl ⟨by rfl, ?_⟩) hS ?_; rotate_left; (· (intro y hy; (try dsimp only at hy); go_simp; try with_reducible rfl)); try simp only [Act.put, List.setIfInBounds_toArray, List.set_cons_zero, List.set_cons_succ, List.getElem_toArray, List.getElem_cons_zero, List.getElem_cons_succ])
      | (refine wpAnyH_take (i := 13) (v := undef) rfl (by kernel_rfl) (by kernel_rfl) (by kernel_rfl) (fun _ _ _ h => h) (Or.inr ⟨by rfl, rfl⟩) hS ?_; try simp only [Act.put, List.setIfInBounds_toArray, List.set_cons_zero, List.set_cons_succ, List.getElem_toArray, List.getElem_cons_zero, List.getElem_cons_succ])
      first
      | (refine wpAnyH_take (i := 14) (v := ?_) rfl (by kernel_rfl) (by kernel_rfl) (by kernel_rfl) (fun _ _ _ h => h) (Or.inl ⟨by rfl, ?_⟩) hS ?_; rotate_left; (· (intro y hy; (try dsimp only at hy); go_simp; try with_reducible rfl)); try simp only [Act.put, List.setIfInBounds_toArray, List.set_cons_zero, List.set_cons_succ, List.getElem_toArray, List.getElem_cons_zero, List.getElem_cons_succ])
      | (refine wpAnyH_take (i := 14) (v := undef) rfl (by kernel_rfl) (by kernel_rfl) (by kernel_rfl) (fun _ _ _ h => h) (Or.inr ⟨by rfl, rfl⟩) hS ?_; try simp only [Act.put, List.setIfInBounds_toArray, List.set_cons_zero, List.set_cons_succ, List.getElem_toArray, List.getElem_cons_zero, List.getElem_cons_succ])
      first
      | (refine wpAnyH_take (i := 15) (v := ?_) rfl (by kernel_rfl) (by kernel_rfl) (by kernel_rfl) (fun _ _ _ h => h) (Or.inl ⟨by rfl, ?_⟩) hS ?_; rotate_left; (· (intro y hy; (try dsimp only at hy); go_simp; try with_reducible rfl)); try simp only [Act.put, List.setIfInBounds_toArray, List.set_cons_zero, List.set_cons_succ, List.getElem_toArray, List.getElem_cons_zero, List.getElem_cons_succ])
      | (refine wpAnyH_take (i := 15) (v := undef) rfl (by kernel_rfl) (by kernel_rfl) (by kernel_rfl) (fun _ _ _ h => h) (Or.inr ⟨by rfl, rfl⟩) hS ?_; try simp only [Act.put, List.setIfInBounds_toArray, List.set_cons_zero, List.set_cons_succ, List.getElem_toArray, List.getElem_cons_zero, List.getElem_cons_succ])
      refine wpAnyH_ready (rs := [16]) (by kernel_rfl) (by simp) ?_
      refine AllReadyH.cons (o := _) rfl (fun K hK => ?_) AllReadyH.nil
      go_simp
      refine (hF.tells _).mono ?_
      rintro e z1 ⟨rfl, hb1⟩
      replace hb1 : Below wr.heap.size wr z1 := (Below.refl _ wr).drew.trans hb1
      have hc := fun i => hb1.cell (p := ⟨rb, i, none⟩) hrw
      have g0 := (hc _).trans f0
      have g1 := (hc _).trans f1
      have g2 := (hc _).trans f2
      clear hc
      refine hK.out _ _ (⟨g0, g1, g2⟩) (fun hS => ?_)
      clear hK K
      try simp only [Act.put, List.setIfInBounds_toArray, List.set_cons_zero, List.set_cons_succ]
      refine wpAnyH_ready (rs := [17]) (by kernel_rfl) (by simp) ?_
      refine AllReadyH.cons (o := _) rfl (fun K hK => ?_) AllReadyH.nil
      go_simp
      refine (MA _ (hKa.on hb1)).mono ?_
      rintro e z2 ⟨rfl, hW⟩
      obtain ⟨hO2, hbn⟩ := hWa _ (Went.after (Chg.of_below (S := Ka) hb1 (Nat.le_refl _)) (fun _ h => h) hW)
      have hB2 := hB.trans hbn
      have hc := fun i => hbn.cell (p := ⟨rb, i, none⟩) hrn
      have g0' := (hc _).trans f0
      have g1' := (hc _).trans f1
      have g2' := (hc _).trans f2
      clear hc
      refine hK.out _ _ (⟨g0', g1', g2'⟩) (fun hS => ?_)
      clear hK K
      try simp only [Act.put, List.setIfInBounds_toArray, List.set_cons_zero, List.set_cons_succ]
      first
      | (refine wpAnyH_take (i := 18) (v := ?_) rfl (by kernel_rfl) (by kernel_rfl) (by kernel_rfl) (fun _ _ _ h => h) (Or.inl ⟨by rfl, ?_⟩) hS ?_; rotate_left; (· (intro y hy; (try dsimp only at hy); go_simp; try with_reducible rfl)); try simp only [Act.put, List.setIfInBounds_toArray, List.set_cons_zero, List.set_cons_succ, List.getElem_toArray, List.getElem_cons_zero, List.getElem_cons_succ])
      | (refine wpAnyH_take (i := 18) (v := undef) rfl (by kernel_rfl) (by kernel_rfl) (by kernel_rfl) (fun _ _ _ h => h) (Or.inr ⟨by rfl, rfl⟩) hS ?_; try simp only [Act.put, List.setIfInBounds_toArray, List.set_cons_zero, List.set_cons_succ, List.getElem_toArray, List.getElem_cons_zero, List.getElem_cons_succ])
      first
      | (refine wpAnyH_take (i := 19) (v := ?_) rfl (by kernel_rfl) (by kernel_rfl) (by kernel_rfl) (fun _ _ _ h => h) (Or.inl ⟨by rfl, ?_⟩) hS ?_; rotate_left; (· (intro y hy; (try dsimp only at hy); go_simp; try with_reducible rfl)); try simp only [Act.put, List.setIfInBounds_toArray, List.set_cons_zero, List.set_cons_succ, List.getElem_toArray, List.getElem_cons_zero, List.getElem_cons_succ])
      | (refine wpAnyH_take (i := 19) (v := undef) rfl (by kernel_rfl) (by kernel_rfl) (by kernel_rfl) (fun _ _ _ h => h) (Or.inr ⟨by rfl, rfl⟩) hS ?_; try simp only [Act.put, List.setIfInBounds_toArray, List.set_cons_zero, List.set_cons_succ, List.getElem_toArray, List.getElem_cons_zero, List.getElem_cons_succ])
      first
      | (refine wpAnyH_take (i := 20) (v := ?_) rfl (by kernel_rfl) (by kernel_rfl) (by kernel_rfl) (fun _ _ _ h => h) (Or.inl ⟨by rfl, ?_⟩) hS ?_; rotate_left; (· (intro y hy; (try dsimp only at hy); go_simp; try with_reducible rfl)); try simp only [Act.put, List.setIfInBounds_toArray, List.set_cons_zero, List.set_cons_succ, List.getElem_toArray, List.getElem_cons_zero, List.getElem_cons_succ])
      | (refine wpAnyH_take (i := 20) (v := undef) rfl (by kernel_rfl) (by kernel_rfl) (by kernel_rfl) (fun _ _ _ h => h) (Or.inr ⟨by rfl, rfl⟩) hS ?_; try simp only [Act.put, List.setIfInBounds_toArray, List.set_cons_zero, List.set_cons_succ, List.getElem_toArray, List.getElem_cons_zero, List.getElem_cons_succ])
      first
      | (refine wpAnyH_take (i := 21) (v := ?_) rfl (by kernel_rfl) (by kernel_rfl) (by kernel_rfl) (fun _ _ _ h => h) (Or.inl ⟨by rfl, ?_⟩) hS ?_; rotate_left; (· (intro y hy; (try dsimp only at hy); go_simp; try with_reducible rfl)); try simp only [Act.put, List.setIfInBounds_toArray, List.set_cons_zero, List.set_cons_succ, List.getElem_toArray, List.getElem_cons_zero, List.getElem_cons_succ])
      | (refine wpAnyH_take (i := 21) (v := undef) rfl (by kernel_rfl) (by kernel_rfl) (by kernel_rfl) (fun _ _ _ h => h) (Or.inr ⟨by rfl, rfl⟩) hS ?_; try simp only [Act.put, List.setIfInBounds_toArray, List.set_cons_zero, List.set_cons_succ, List.getElem_toArray, List.getElem_cons_zero, List.getElem_cons_succ])
      first
      | (refine wpAnyH_take (i := 22) (v := ?_) rfl (by kernel_rfl) (by kernel_rfl) (by kernel_rfl) (fun _ _ _ h => h) (Or.inl ⟨by rfl, ?_⟩) hS ?_; rotate_left; (· (intro y hy; (try dsimp only at hy); go_simp; try with_reducible rfl)); try simp only [Act.put, List.setIfInBounds_toArray, List.set_cons_zero, List.set_cons_succ, List.getElem_toArray, List.getElem_cons_zero, List.getElem_cons_succ])
      | (refine wpAnyH_take (i := 22) (v := undef) rfl (by kernel_rfl) (by kernel_rfl) (by kernel_rfl) (fun _ _ _ h => h) (Or.inr ⟨by rfl, rfl⟩) hS ?_; try simp only [Act.put, List.setIfInBounds_toArray, List.set_cons_zero, List.set_cons_succ, List.getElem_toArray, List.getElem_cons_zero, List.getElem_cons_succ])
      refine wpAnyH_done (by kernel_rfl) ?_ _
      refine NoPanic.normal ?_
      clear hS MA hW hbn g0 g1 g2 g0' g1' g2' f0 f1 f2 hWa hKa hb1 hO hB
      have hwz : n ≤ z2.heap.size := by have := hB2.size; have := Hn.out; omega
      have hpn2 : (s.lay p d wk fn).pn = s.pn ++ [s.tn] := rfl
      obtain ⟨t, ht⟩ : ∃ t, s.lay p d wk fn = t := ⟨_, rfl⟩
      rw [ht] at hO2 hP2 hser hpn2
      clear ht
      have HP2 := Lib.hid hP2
      obtain ⟨Ks, hKs, _⟩ := hO2.heap
      have MS := serialA hKs hP2.ok s.tn (by rw [hpn2]; exact List.mem_append_right _ (by simp))
      rw [hser] at MS
      have i1 : IntKind.i64.wrap ((k : Int) + 1) = ((k + 1 : Nat) : Int) := by rw [IntWalk.i64_in _ (by omega)]; omega
      obtain ⟨k1, hk1⟩ : ∃ k1, k + 1 = k1 := ⟨_, rfl⟩
      rw [hk1] at MS i1
      have Hk1 := Lib.hid hk1
      have HPN := Lib.hid hpn2
      have hlen : s.pn.length ≤ 10 := by rw [hP.out.len]; omega
      clear hP2 hser hKs hk1 hpn2
      go_wp2_with fail
      refine MS.mono ?_
      rintro e z3 ⟨rfl, hb1⟩
      have hO3 := hO2.on hb1
      have hB3 := hB2.trans (hb1.mono hwz)
      have hwz3 : n ≤ z3.heap.size := Nat.le_trans hwz hb1.size
      clear hO2 hB2 hb1 MS
      have hba := (Below.refl _ z3).alloc (Nat.le_refl _) (.cells #[.int .i64 s.tn] 3)
      have hOa := hO3.on hba
      have hBa := hB3.trans (hba.mono hwz3)
      have hcl := (BlkIs.new z3 #[.int .i64 s.tn] 3).cell 0
      have hza : n ≤ (z3.alloc (.cells #[.int .i64 s.tn] 3)).heap.size := Nat.le_trans hwz3 hba.size
      have hra := hOa.row
      go_wp2_with (at_builtin; refine wpList_push rfl _ _ rfl u8 s.pn rfl hra (by omega) z3.heap.size s.tn rfl hcl ?_; intro v' w' r3 hgr hat hsl; obtain ⟨hO4, hb4⟩ := hOa.push hza r3 hgr hat)
      go_roundw
      case rel =>
        refine ⟨k1, t, by have := Hk1.out; omega, by have := Hk1.out; omega, by go_num, ?_, by rw [HPN.out]; exact hO4, hBa.trans hb4⟩
        rw [← Hk1.out]; exact HP2
      case measure =>
        have := Hk1.out
        simp [intOf]
        omega
    · by_cases hlt2 : k < len0
      · have d0 : decide ((k : Int) < (len0 : Int)) = true := decide_eq_true (by omega)
        have d1 : decide ((k : Int) < 10) = false := decide_eq_false (by omega)
        have hfl := hP.out.flip
        obtain ⟨Kf, hKf, hWf⟩ := hO.went (s' := s.flip) hwr
        have MF := flipA hKf hP.out.ok hP.out.mv
        obtain ⟨l, hll⟩ : ∃ l, s.pn = l := ⟨_, rfl⟩
        rw [hll] at hO hWf hfl
        have hl10 : l.length ≤ 10 := by rw [← hll, hP.out.len]; omega
        obtain ⟨aa, ac, rfl⟩ := own_slice hO.row
        go_wp2_with fail
        refine MF.mono ?_
        rintro e xf ⟨rfl, hW⟩
        obtain ⟨hO2, hb⟩ := hWf _ hW
        have hB2 := hB.trans hb
        have HF := Lib.hid hfl
        obtain ⟨s2, hs2⟩ : ∃ s2, s.flip = s2 := ⟨_, rfl⟩
        rw [hs2] at hO2 HF
        clear MF hW hWf hKf hs2 hb hfl hO hB hP hll
        obtain ⟨wf, rfl⟩ : ∃ wf : World, wf = xf := ⟨_, rfl⟩
        go_wp2_with fail
        go_loopw [14] (fun i wr2 => ∃ (j : Nat) (s3 : Hp), j ≤ 10 ∧ j ≤ len1 ∧ i = .int .i64 j ∧ Hid (Ph2 l s3) ∧ Own n wr2 H s3 (.slice aa l.length ac) l ∧ Below n w wr2) (fun i _ => 10 - (intOf i).toNat)
        case atStart => exact ⟨0, s2, by omega, by omega, rfl, HF, hO2, hB2⟩
        case round =>
          clear hO2 hB2 HF
          obtain ⟨j, s3, hj, hj1, rfl, hP, hO, hB⟩ := hrel
          have hwr2 : n ≤ wr.heap.size := by have := hB.size; have := Hn.out; omega
          by_cases hin : j < len1 ∧ j < 10 ∧ 0 < l.length
          · have d2 : decide ((j : Int) < (len1 : Int)) = true := decide_eq_true (by omega)
            have d3 : decide ((j : Int) < 10) = true := decide_eq_true (by omega)
            have d4 : decide ((0 : Int) < (l.length : Int)) = true := decide_eq_true (by omega)
            obtain ⟨ob, oo, ox, eo, hob, co, x0b, x1b⟩ := (IsRow.read H1.out).2 j hin.1
            subst eo
            have hon : ob < n := by have := Hn.out; omega
            have fo := (hB.cell (p := ⟨ob, oo + j, none⟩) hon).trans co
            have MP := fun z => pick_nat ox l.length z x0b x1b hin.2.2 (by omega)
            have b0 : (0 : Int) ≤ (j : Int) := by omega
            have b1 : (j : Int) < (len1 : Int) := by omega
            have b2 : (0 : Int) < (l.length : Int) := by omega
            clear co x0b x1b
            go_wp2_with fail
            refine (MP _).mono ?_
            rintro e _ ⟨q, hq, rfl, rfl⟩
            clear MP fo
            obtain ⟨t1, t2, t3, t4, t5, t6⟩ := hP.out.tells hq
            have hP3 := Lib.hid (hP.out.moved (l.getD q 0))
            obtain ⟨ga, gc, ev, _, hgl, hgc, _, _, hgcell⟩ := own_cell (own_base hO.row (Nat.le_refl 0)) (by omega)
            have cq := hgcell q hq
            rw [nums_getD hq] at cq
            have eaa : aa = some ⟨ga, 0, none⟩ := by injection ev
            subst eaa
            clear ev hgcell
            obtain ⟨K1, hK1, hW1⟩ := hO.went (s' := s3.moved (l.getD q 0)) hwr2
            have M1 := movedH hP.out.ok (p := l.getD q 0) hK1 (.inr (.inr (by rw [hP.out.pk]; exact getD_mem' hq)))
            have HC : Hid (∀ y, RowIs y (.slice (some ⟨ga, 0, none⟩) l.length ac) l → y.cell? ⟨ga, q, none⟩ = some (.int .i64 (l.getD q 0 : Nat))) := Lib.hid fun y h => row_cell h hq
            have hapk : l.getD q 0 ∈ (s3.moved (l.getD q 0)).pk := by rw [hP3.out.pk]; exact getD_mem' hq
            generalize l.getD q 0 = a at *
            obtain ⟨pp, hpp⟩ : ∃ pp, s3.movV a = pp := ⟨_, rfl⟩
            rw [hpp] at t1 t2 t3 t5 t6 M1
            obtain ⟨s4, hs4⟩ : ∃ s4, s3.moved a = s4 := ⟨_, rfl⟩
            rw [hs4] at t1 t2 t3 t4 t5 t6 M1 hP3 hW1 hapk
            clear hpp hs4
            have q0 : (0 : Int) ≤ (q : Int) := by omega
            have q1 : (q : Int) < (l.length : Int) := by omega
            have i1 : IntKind.i64.wrap ((q : Int) + 1) = ((q + 1 : Nat) : Int) := by rw [IntWalk.i64_in _ (by omega)]; omega
            obtain ⟨q2, hq2⟩ : ∃ q2, q + 1 = q2 := ⟨_, rfl⟩
            rw [hq2] at i1 t2
            clear hq2
            go_wp2_with fail
            refine M1.mono ?_
            rintro e y1 ⟨rfl, hW⟩
            obtain ⟨hO1, hb⟩ := hW1 _ hW
            have hB1 := hB.trans hb
            have hy1 : n ≤ y1.heap.size := by have := hB1.size; have := Hn.out; omega
            obtain ⟨K2, hK2, hW2⟩ := hO1.went (s' := s4) hy1
            have M2 := serialA hK2 hP3.out.ok pp t1
            rw [t2] at M2
            clear M1 hW hW1 hK1 hO hB hb cq
            go_wp2_with fail
            refine M2.mono ?_
            rintro e y2 ⟨rfl, hb⟩
            have hO3 := hO1.on hb
            have hB3 := hB1.trans (hb.mono hy1)
            have hy2 : n ≤ y2.heap.size := Nat.le_trans hy1 hb.size
            clear M2 hO1 hB1 hb hK2 hW2
            have cq2 := HC.out y2 hO3.row
            obtain ⟨K3, hK3, hW3⟩ := hO3.went (s' := s4) hy2
            have M3 := movedH hP3.out.ok (p := a) hK3 (.inr (.inr hapk))
            rw [t3, t4] at M3
            go_wp2_with fail
            refine M3.mono ?_
            rintro e y3 ⟨rfl, hW⟩
            obtain ⟨hO4, hb⟩ := hW3 _ hW
            have hB4 := hB3.trans hb
            have hy3 : n ≤ y3.heap.size := by have := hB4.size; have := Hn.out; omega
            obtain ⟨K4, hK4, hW4⟩ := hO4.went (s' := s4) hy3
            have M4 := movedH hP3.out.ok (p := pp) hK4 (.inr (.inl t1))
            rw [t5, t6] at M4
            clear M3 hW hW3 hK3 hO3 hB3 hb cq2
            go_wp2_with fail
            refine M4.mono ?_
            rintro e y4 ⟨rfl, hW⟩
            obtain ⟨hO5, hb⟩ := hW4 _ hW
            have hB5 := hB4.trans hb
            clear M4 hW hW4 hK4 hO4 hB4 hb
            go_wp2
            go_roundw
            case rel => exact ⟨j + 1, s4, by omega, by omega, by go_num, hP3, hO5, hB5⟩
            case measure => simp [intOf]; omega
          · by_cases j1 : j < len1
            · have d2 : decide ((j : Int) < (len1 : Int)) = true := decide_eq_true (by omega)
              by_cases j2 : j < 10
              · have d3 : decide ((j : Int) < 10) = true := decide_eq_true (by omega)
                have d4 : decide ((0 : Int) < (l.length : Int)) = false := decide_eq_false (by omega)
                go_wp2
                go_ret
                exact ⟨rfl, hB⟩
              · have d3 : decide ((j : Int) < 10) = false := decide_eq_false (by omega)
                go_wp2
                go_ret
                exact ⟨rfl, hB⟩
            · have d2 : decide ((j : Int) < (len1 : Int)) = false := decide_eq_false (by omega)
              go_wp2
              go_ret
              exact ⟨rfl, hB⟩
      · have d0 : decide ((k : Int) < (len0 : Int)) = false := decide_eq_false (by omega)
        have hfl := hP.out.flip
        obtain ⟨Kf, hKf, hWf⟩ := hO.went (s' := s.flip) hwr
        have MF := flipA hKf hP.out.ok hP.out.mv
        obtain ⟨l, hll⟩ : ∃ l, s.pn = l := ⟨_, rfl⟩
        rw [hll] at hO hWf hfl
        have hl10 : l.length ≤ 10 := by rw [← hll, hP.out.len]; omega
        obtain ⟨aa, ac, rfl⟩ := own_slice hO.row
        go_wp2_with fail
        refine MF.mono ?_
        rintro e xf ⟨rfl, hW⟩
        obtain ⟨hO2, hb⟩ := hWf _ hW
        have hB2 := hB.trans hb
        have HF := Lib.hid hfl
        obtain ⟨s2, hs2⟩ : ∃ s2, s.flip = s2 := ⟨_, rfl⟩
        rw [hs2] at hO2 HF
        clear MF hW hWf hKf hs2 hb hfl hO hB hP hll
        obtain ⟨wf, rfl⟩ : ∃ wf : World, wf = xf := ⟨_, rfl⟩
        go_wp2_with fail
        go_loopw [14] (fun i wr2 => ∃ (j : Nat) (s3 : Hp), j ≤ 10 ∧ j ≤ len1 ∧ i = .int .i64 j ∧ Hid (Ph2 l s3) ∧ Own n wr2 H s3 (.slice aa l.length ac) l ∧ Below n w wr2) (fun i _ => 10 - (intOf i).toNat)
        case atStart => exact ⟨0, s2, by omega, by omega, rfl, HF, hO2, hB2⟩
        case round =>
          clear hO2 hB2 HF
          obtain ⟨j, s3, hj, hj1, rfl, hP, hO, hB⟩ := hrel
          have hwr2 : n ≤ wr.heap.size := by have := hB.size; have := Hn.out; omega
          by_cases hin : j < len1 ∧ j < 10 ∧ 0 < l.length
          · have d2 : decide ((j : Int) < (len1 : Int)) = true := decide_eq_true (by omega)
            have d3 : decide ((j : Int) < 10) = true := decide_eq_true (by omega)
            have d4 : decide ((0 : Int) < (l.length : Int)) = true := decide_eq_true (by omega)
            obtain ⟨ob, oo, ox, eo, hob, co, x0b, x1b⟩ := (IsRow.read H1.out).2 j hin.1
            subst eo
            have hon : ob < n := by have := Hn.out; omega
            have fo := (hB.cell (p := ⟨ob, oo + j, none⟩) hon).trans co
            have MP := fun z => pick_nat ox l.length z x0b x1b hin.2.2 (by omega)
            have b0 : (0 : Int) ≤ (j : Int) := by omega
            have b1 : (j : Int) < (len1 : Int) := by omega
            have b2 : (0 : Int) < (l.length : Int) := by omega
            clear co x0b x1b
            go_wp2_with fail
            refine (MP _).mono ?_
            rintro e _ ⟨q, hq, rfl, rfl⟩
            clear MP fo
            obtain ⟨t1, t2, t3, t4, t5, t6⟩ := hP.out.tells hq
            have hP3 := Lib.hid (hP.out.moved (l.getD q 0))
            obtain ⟨ga, gc, ev, _, hgl, hgc, _, _, hgcell⟩ := own_cell (own_base hO.row (Nat.le_refl 0)) (by omega)
            have cq := hgcell q hq
            rw [nums_getD hq] at cq
            have eaa : aa = some ⟨ga, 0, none⟩ := by injection ev
            subst eaa
            clear ev hgcell
            obtain ⟨K1, hK1, hW1⟩ := hO.went (s' := s3.moved (l.getD q 0)) hwr2
            have M1 := movedH hP.out.ok (p := l.getD q 0) hK1 (.inr (.inr (by rw [hP.out.pk]; exact getD_mem' hq)))
            have HC : Hid (∀ y, RowIs y (.slice (some ⟨ga, 0, none⟩) l.length ac) l → y.cell? ⟨ga, q, none⟩ = some (.int .i64 (l.getD q 0 : Nat))) := Lib.hid fun y h => row_cell h hq
            have hapk : l.getD q 0 ∈ (s3.moved (l.getD q 0)).pk := by rw [hP3.out.pk]; exact getD_mem' hq
            generalize l.getD q 0 = a at *
            obtain ⟨pp, hpp⟩ : ∃ pp, s3.movV a = pp := ⟨_, rfl⟩
            rw [hpp] at t1 t2 t3 t5 t6 M1
            obtain ⟨s4, hs4⟩ : ∃ s4, s3.moved a = s4 := ⟨_, rfl⟩
            rw [hs4] at t1 t2 t3 t4 t5 t6 M1 hP3 hW1 hapk
            clear hpp hs4
            have q0 : (0 : Int) ≤ (q : Int) := by omega
            have q1 : (q : Int) < (l.length : Int) := by omega
            have i1 : IntKind.i64.wrap ((q : Int) + 1) = ((q + 1 : Nat) : Int) := by rw [IntWalk.i64_in _ (by omega)]; omega
            obtain ⟨q2, hq2⟩ : ∃ q2, q + 1 = q2 := ⟨_, rfl⟩
            rw [hq2] at i1 t2
            clear hq2
            go_wp2_with fail
            refine M1.mono ?_
            rintro e y1 ⟨rfl, hW⟩
            obtain ⟨hO1, hb⟩ := hW1 _ hW
            have hB1 := hB.trans hb
            have hy1 : n ≤ y1.heap.size := by have := hB1.size; have := Hn.out; omega
            obtain ⟨K2, hK2, hW2⟩ := hO1.went (s' := s4) hy1
            have M2 := serialA hK2 hP3.out.ok pp t1
            rw [t2] at M2
            clear M1 hW hW1 hK1 hO hB hb cq
            go_wp2_with fail
            refine M2.mono ?_
            rintro e y2 ⟨rfl, hb⟩
            have hO3 := hO1.on hb
            have hB3 := hB1.trans (hb.mono hy1)
            have hy2 : n ≤ y2.heap.size := Nat.le_trans hy1 hb.size
            clear M2 hO1 hB1 hb hK2 hW2
            have cq2 := HC.out y2 hO3.row
            obtain ⟨K3, hK3, hW3⟩ := hO3.went (s' := s4) hy2
            have M3 := movedH hP3.out.ok (p := a) hK3 (.inr (.inr hapk))
            rw [t3, t4] at M3
            go_wp2_with fail
            refine M3.mono ?_
            rintro e y3 ⟨rfl, hW⟩
            obtain ⟨hO4, hb⟩ := hW3 _ hW
            have hB4 := hB3.trans hb
            have hy3 : n ≤ y3.heap.size := by have := hB4.size; have := Hn.out; omega
            obtain ⟨K4, hK4, hW4⟩ := hO4.went (s' := s4) hy3
            have M4 := movedH hP3.out.ok (p := pp) hK4 (.inr (.inl t1))
            rw [t5, t6] at M4
            clear M3 hW hW3 hK3 hO3 hB3 hb cq2
            go_wp2_with fail
            refine M4.mono ?_
            rintro e y4 ⟨rfl, hW⟩
            obtain ⟨hO5, hb⟩ := hW4 _ hW
            have hB5 := hB4.trans hb
            clear M4 hW hW4 hK4 hO4 hB4 hb
            go_wp2
            go_roundw
            case rel => exact ⟨j + 1, s4, by omega, by omega, by go_num, hP3, hO5, hB5⟩
            case measure => simp [intOf]; omega
          · by_cases j1 : j < len1
            · have d2 : decide ((j : Int) < (len1 : Int)) = true := decide_eq_true (by omega)
              by_cases j2 : j < 10
              · have d3 : decide ((j : Int) < 10) = true := decide_eq_true (by omega)
                have d4 : decide ((0 : Int) < (l.length : Int)) = false := decide_eq_false (by omega)
                go_wp2
                go_ret
                exact ⟨rfl, hB⟩
              · have d3 : decide ((j : Int) < 10) = false := decide_eq_false (by omega)
                go_wp2
                go_ret
                exact ⟨rfl, hB⟩
            · have d2 : decide ((j : Int) < (len1 : Int)) = false := decide_eq_false (by omega)
              go_wp2
              go_ret
              exact ⟨rfl, hB⟩

set_option maxRecDepth 100000 in
theorem lifted (os : Os) (started : os.Started) (H : Type) (enc : TypeId × Value → H) :
    ReturnsInHanded {} Try.checked os 3 .any (Rows.heapSerialsSpec.pre6 enc Try.prog Try.f3 Rows.heapSerialsRow.domain false) (Rows.heapSerialsSpec.post enc Try.prog Try.f3 false true false false) := by
  refine returnsInHanded_of_change (C := Try.checked) own started (by kernel_rfl) Try.func3
    (ChangeSpec.witness6 (enc := enc) (C := Try.checked) false ⟨#[], #[.slice none 0 0, .slice none 0 0], []⟩ 8 (by kernel_rfl) (by kernel_rfl) (by kernel_rfl) (by kernel_rfl)) ?_
  intro W base args ds gs before hval0 hW hcnd _
  have hval : ∀ (j : Nat) t v, Try.f3.params[j]? = some t → args[j]? = some v → Value.okWide Try.prog W .any base t v := hval0
  have hW' := hW
  obtain ⟨p, q, hA0, hV, rfl, hfz, hnd⟩ := hW
  have hA : DataW.TrodAll enc Try.prog W 0 (fun _ => true) true Try.f3.params.toList args.toList ds p := hA0
  rw [Try.params3] at hA hval
  obtain ⟨v0, vs0, d0, ds0, p0, q0, hargs, rfl, rfl, h0, r0⟩ := trodAll_cons hA
  obtain ⟨v1, vs1, d1, ds1, p1, q1, rfl, rfl, rfl, h1, r1⟩ := trodAll_cons r0
  obtain ⟨rfl, rfl, rfl⟩ := trodAll_nil r1
  obtain rfl : args = #[v0, v1] := by cases args; simp_all
  obtain ⟨rfl, rfl⟩ := trodVars_none hV
  obtain ⟨a0, len0, cap0, rfl⟩ := okWide_slice Try.underlying22 (hval 0 22 v0 rfl rfl)
  have k0 := h0
  have lt0 : ∀ x ∈ p0, x.block < W.heap.size := by obtain ⟨m, hm⟩ := k0; exact DataW.trod_lt m _ _ _ hm
  obtain ⟨z0, w0⟩ := open_flats (n := 8) (ks := rawKs) Try.underlying22 (by kernel_rfl) (by kernel_rfl) (by decide) h0
  obtain ⟨a1, len1, cap1, rfl⟩ := okWide_slice Try.underlying23 (hval 1 23 v1 rfl rfl)
  have k1 := h1
  have lt1 : ∀ x ∈ p1, x.block < W.heap.size := by obtain ⟨m, hm⟩ := k1; exact DataW.trod_lt m _ _ _ hm
  obtain ⟨z1, w1⟩ := open_row Try.underlying23 Try.underlying3 (by kernel_rfl) h1
  clear hA0 hval0
  refine (walk a0 len0 cap0 z0 a1 len1 cap1 z1 W w0 w1).mono fun e W' ⟨he, bel⟩ => ?_
  subst he
  exact ⟨_, rfl, _, _, _, [], _, [], hW', trodAll_mk1 (shut_bool Try.underlying4 _), (trodAll_cons_mk (Below.trod laidOut (by kernel_rfl) (of_decide_eq_true (by kernel_rfl)) k0 bel lt0) (trodAll_cons_mk (Below.trod laidOut (by kernel_rfl) (of_decide_eq_true (by kernel_rfl)) k1 bel lt1) trodAll_mk0)), rfl, bel.frame _, fun h => by cases h⟩

theorem over : Rows.heapSerialsRow.holds Try.pinned (OpenSpec.ofChange Rows.heapSerialsSpec) :=
  OpenClaim.holds_of_wide 3 Try.f3 rfl rfl rfl rfl rfl rfl rfl ⟨rfl, rfl, rfl, rfl, rfl⟩ rfl rfl rfl rfl rfl (by kernel_rfl) Try.func3 (by kernel_rfl)
    (of_decide_eq_true (by kernel_rfl)) (by unfold Func.isWrapper; first | (rw [if_pos (by decide +kernel)]; kernel_rfl) | (rw [if_neg (by decide +kernel)]; exact ⟨rfl, rfl⟩))
    (fun os started H enc _ => lifted os started H enc)

theorem proved : Rows.HeapSerialsSaid := over
#print axioms proved

end Go.Proofs.Ytoohnnkhklifdaa.heapSerials
