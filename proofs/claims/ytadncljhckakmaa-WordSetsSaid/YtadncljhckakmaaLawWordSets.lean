/- For every word, number and two raw parts: what was Set, Get tells, and a part that has no bit in common is as it was: the law WordSets returns true and its arguments read as they did. No condition. -/
import Derived.Test.YtadncljhckakmaaWordFit
import Derived.Test.YtadncljhckakmaaOpen
namespace Go.Proofs.Ytadncljhckakmaa.wordSets
open Go.ChangeShapes Go.WideShapes Go.ChangeAt Go.RowKit
set_option linter.unusedVariables false

theorem keepTwo {w x y : World} {b1 b2 : Nat} {s d s' d' : Int} (h : x.cell? ⟨b1, 0, none⟩ = some (.int .i64 s) ∧ x.cell? ⟨b1, 1, none⟩ = some (.int .i64 d) ∧ x.cell? ⟨b2, 0, none⟩ = some (.int .i64 s') ∧ x.cell? ⟨b2, 1, none⟩ = some (.int .i64 d') ∧ b1 < x.heap.size ∧ b2 < x.heap.size ∧ w.heap.size ≤ x.heap.size ∧ Below w.heap.size w x)
    (hb : Below x.heap.size x y) : y.cell? ⟨b1, 0, none⟩ = some (.int .i64 s) ∧ y.cell? ⟨b1, 1, none⟩ = some (.int .i64 d) ∧ y.cell? ⟨b2, 0, none⟩ = some (.int .i64 s') ∧ y.cell? ⟨b2, 1, none⟩ = some (.int .i64 d') ∧ b1 < y.heap.size ∧ b2 < y.heap.size ∧ w.heap.size ≤ y.heap.size ∧ Below w.heap.size w y := by
  obtain ⟨c0, c1, c2, c3, l1, l2, l3, hw⟩ := h
  have hs := hb.size
  exact ⟨(hb.cell (p := ⟨b1, 0, none⟩) l1).trans c0, (hb.cell (p := ⟨b1, 1, none⟩) l1).trans c1, (hb.cell (p := ⟨b2, 0, none⟩) l2).trans c2, (hb.cell (p := ⟨b2, 1, none⟩) l2).trans c3, by omega, by omega, by omega, hw.trans (hb.mono l3)⟩

/-- A number cut to a part's most. -/
def cut (v d : Int) : Int := ((v.toNat &&& Wd.most d.toNat : Nat) : Int)
theorem cut_val (v s d : Int) (h0 : 0 ≤ v) (h1 : v ≤ 18446744073709551615) (g0 : 0 ≤ s) (g1 : 1 ≤ d) (g2 : s + d ≤ 64) : bits .and .u64 v (((Wd.mask s.toNat d.toNat : Nat) : Int) / 2 ^ s.toNat) = cut v d := by
  have e2 : (2 : Int) ^ s.toNat = ((2 ^ s.toNat : Nat) : Int) := by simp
  rw [e2, ← Int.natCast_ediv, ← Nat.shiftRight_eq_div_pow, Wd.mask_shift]
  obtain ⟨k, rfl⟩ : ∃ k : Nat, v = k := ⟨v.toNat, by omega⟩
  have hm := Wd.most_lt d.toNat
  have hp := Wd.pow_le64 (d := d.toNat) (by omega)
  rw [u64_and_nat _ _ (by omega) (by omega)]
  rfl
theorem cut_bounds (v d : Int) : 0 ≤ cut v d ∧ cut v d ≤ ((Wd.most d.toNat : Nat) : Int) := by
  unfold cut
  have : v.toNat &&& Wd.most d.toNat ≤ Wd.most d.toNat := Nat.and_le_right
  omega

/-- The word behind the first Set. -/
def put (a s d v : Int) : Int := ((Wd.set a.toNat s.toNat d.toNat v.toNat : Nat) : Int)
section
variable {a s d v s' d' : Int} (h0 : 0 ≤ a) (h1 : a ≤ 18446744073709551615) (g0 : 0 ≤ s) (g1 : 1 ≤ d) (g2 : s + d ≤ 64) (v0 : 0 ≤ v) (v1 : v ≤ ((Wd.most d.toNat : Nat) : Int)) (k0 : 0 ≤ s') (k1 : 1 ≤ d') (k2 : s' + d' ≤ 64)
include h0 h1 g0 g1 g2 v0 v1
theorem put_bounds : 0 ≤ put a s d v ∧ put a s d v < 18446744073709551616 := by
  have hm := Wd.most_lt d.toNat
  have := Wd.set_lt (w := a.toNat) (s := s.toNat) (d := d.toNat) (v := v.toNat) (by omega) (by omega) (by omega)
  unfold put
  omega
theorem get_put : ((Wd.get (put a s d v).toNat s.toNat d.toNat : Nat) : Int) = v := by
  have hm := Wd.most_lt d.toNat
  unfold put
  rw [Int.toNat_natCast, Wd.get_set (by omega) (by omega) (by omega)]
  omega
theorem put_back : ((Wd.set (put a s d v).toNat s.toNat d.toNat ((Wd.get a.toNat s.toNat d.toNat : Nat) : Int).toNat : Nat) : Int) = a := by
  have hm := Wd.most_lt d.toNat
  unfold put
  rw [Int.toNat_natCast, Int.toNat_natCast, Wd.set_back (by omega) (by omega) (by omega)]
  omega
include k0 k1 k2 in
theorem get_far (hf : s + d ≤ s' ∨ s' + d' ≤ s) : ((Wd.get (put a s d v).toNat s'.toNat d'.toNat : Nat) : Int) = ((Wd.get a.toNat s'.toNat d'.toNat : Nat) : Int) := by
  have hm := Wd.most_lt d.toNat
  unfold put
  rw [Int.toNat_natCast, Wd.get_set_other (by omega) (by omega) (by omega) (by omega)]
end
theorem masks_apart {s d s' d' : Int} (g0 : 0 ≤ s) (g1 : 1 ≤ d) (g2 : s + d ≤ 64) (k0 : 0 ≤ s') (k1 : 1 ≤ d') (k2 : s' + d' ≤ 64) :
    (bits .and .u64 ((Wd.mask s.toNat d.toNat : Nat) : Int) ((Wd.mask s'.toNat d'.toNat : Nat) : Int) = 0) ↔ (s + d ≤ s' ∨ s' + d' ≤ s) := by
  rw [u64_and_nat _ _ (Wd.mask_lt (by omega)) (Wd.mask_lt (by omega))]
  have := Wd.mask_apart (s := s.toNat) (d := d.toNat) (s' := s'.toNat) (d' := d'.toNat) (by omega) (by omega)
  constructor
  · intro h
    have := this.1 (by omega)
    omega
  · intro h
    have := this.2 (by omega)
    omega
theorem get_le {a s d : Int} (g1 : 1 ≤ d) : 0 ≤ ((Wd.get a.toNat s.toNat d.toNat : Nat) : Int) ∧ ((Wd.get a.toNat s.toNat d.toNat : Nat) : Int) ≤ ((Wd.most d.toNat : Nat) : Int) := by
  have := Wd.get_lt a.toNat s.toNat d.toNat
  unfold Wd.most
  omega

set_option maxHeartbeats 2000000 in
theorem walk (a0 a1 a2x0 a2x1 a3x0 a3x1 : Int) (w : World) (w0 : 0 ≤ a0 ∧ a0 ≤ 18446744073709551615) (w1 : 0 ≤ a1 ∧ a1 ≤ 18446744073709551615)
    (w2x0 : -9223372036854775808 ≤ a2x0 ∧ a2x0 ≤ 9223372036854775807) (w2x1 : -9223372036854775808 ≤ a2x1 ∧ a2x1 ≤ 9223372036854775807) (w3x0 : -9223372036854775808 ≤ a3x0 ∧ a3x0 ≤ 9223372036854775807) (w3x1 : -9223372036854775808 ≤ a3x1 ∧ a3x1 ≤ 9223372036854775807) :
    Calls Try.prog 3 #[.int .u64 a0, .int .u64 a1, .agg #[.int .i64 a2x0, .int .i64 a2x1], .agg #[.int .i64 a3x0, .int .i64 a3x1]] w fun e w' => e = .returned (.bool true) ∧ Below w.heap.size w w' := by
  have p := fit_right a2x0 a2x1
  have q := fit_right a3x0 a3x1
  go_enter Try.func3, Try.ntmps3
  go_wp2_with fail
  refine (awake_any _).mono ?_
  rintro e x1 ⟨rfl, hb1⟩
  have hz1 := hb1.size
  simp only [World.size_alloc] at hz1
  have c0 : x1.cell? ⟨w.heap.size, 0, none⟩ = some (.int .i64 a2x0) := (hb1.cell (p := ⟨w.heap.size, 0, none⟩) (by simp; omega)).trans (by simp)
  have c1 : x1.cell? ⟨w.heap.size, 1, none⟩ = some (.int .i64 a2x1) := (hb1.cell (p := ⟨w.heap.size, 1, none⟩) (by simp; omega)).trans (by simp)
  have c2 : x1.cell? ⟨w.heap.size + 1, 0, none⟩ = some (.int .i64 a3x0) := (hb1.cell (p := ⟨w.heap.size + 1, 0, none⟩) (by simp)).trans (by simp)
  have c3 : x1.cell? ⟨w.heap.size + 1, 1, none⟩ = some (.int .i64 a3x1) := (hb1.cell (p := ⟨w.heap.size + 1, 1, none⟩) (by simp)).trans (by simp)
  have hB1 : Below w.heap.size w x1 := (((Below.refl _ w).alloc (Nat.le_refl _) _).alloc (by simp) _).trans (hb1.mono (by simp; omega))
  clear hb1
  go_wp2_with fail
  have c2' := c2
  refine (fit_any _ _ _ w2x0.1 w2x0.2 w2x1.1 w2x1.2).mono ?_
  rintro e x2 ⟨rfl, hb2⟩
  have hz2 := hb2.size
  have c4 : x2.cell? ⟨w.heap.size + 1, 0, none⟩ = some (.int .i64 a3x0) := (hb2.cell (p := ⟨w.heap.size + 1, 0, none⟩) (by simp; omega)).trans c2
  have c5 : x2.cell? ⟨w.heap.size + 1, 1, none⟩ = some (.int .i64 a3x1) := (hb2.cell (p := ⟨w.heap.size + 1, 1, none⟩) (by simp; omega)).trans c3
  have hB2 := hB1.trans (hb2.mono (by omega))
  have hz2' : w.heap.size + 1 < x2.heap.size := by omega
  clear hb2 hB1 c0 c1 c2 c3 c2'
  generalize hs : pickOf a2x0 64 = s at p ⊢
  generalize hd : 1 + pickOf a2x1 (64 - s) = d at p ⊢
  clear hs hd
  generalize hs : pickOf a3x0 64 = s' at q
  generalize hd : 1 + pickOf a3x1 (64 - s') = d' at q
  go_wp2_with fail
  refine (fit_any _ _ _ w3x0.1 w3x0.2 w3x1.1 w3x1.2).mono ?_
  rintro e x3 ⟨rfl, hb3⟩
  rw [hs, hd]
  clear hs hd
  have hz3 := hb3.size
  simp only [World.size_alloc] at hz3
  have P1 : PartBox x3 x2.heap.size s d := (show PartBox (x2.alloc (.cells #[.int .i64 s, .int .i64 d] 26)) x2.heap.size s d from World.alloc_heap_new x2 _).kept (grown_of_below hb3) (by simp)
  have hB3 := (hB2.alloc (by omega) _).trans (hb3.mono (by simp; omega))
  clear hb3 hB2 c4 c5 w2x0 w2x1 w3x0 w3x1
  obtain ⟨b1, hb1⟩ : ∃ b1, x2.heap.size = b1 := ⟨_, rfl⟩
  rw [hb1] at P1 hz3 ⊢
  clear hb1
  obtain ⟨p1, p2, p3⟩ := p
  obtain ⟨q1, q2, q3⟩ := q
  have P2 : PartBox (x3.alloc (.cells #[.int .i64 s', .int .i64 d'] 26)) x3.heap.size s' d' := World.alloc_heap_new x3 _
  have P1' := P1.kept (World.grownBy_alloc x3 (.cells #[.int .i64 s', .int .i64 d'] 26) none) (by simp)
  have hz4 := hB3.size
  have hB4 := hB3.alloc (by omega) (.cells #[.int .i64 s', .int .i64 d'] 26)
  obtain ⟨c0, c1, c2, c3, l1, l2, l3, hw⟩ := And.intro P1'.fst (And.intro P1'.snd (And.intro P2.fst (And.intro P2.snd (And.intro P1'.lt (And.intro P2.lt (And.intro hB4.size hB4))))))
  clear P1 P1' P2 hB3 hB4 hz3 hz1
  obtain ⟨y, hy⟩ : ∃ y, x3.alloc (.cells #[.int .i64 s', .int .i64 d'] 26) = y := ⟨_, rfl⟩
  obtain ⟨b2, hb2⟩ : ∃ b2, x3.heap.size = b2 := ⟨_, rfl⟩
  have Hy := Lib.hid hy
  have Hb := Lib.hid hb2
  rw [hy] at c0 c1 c2 c3 l1 l2 l3
  rw [hb2] at c2 c3 l2
  rw [hy] at hw
  clear hy hb2
  have u0 := cut_bounds a1 d
  have ev := cut_val a1 s d w1.1 w1.2 p1 p2 p3
  obtain ⟨a00, a01⟩ := w0
  go_wp2_with fail
  rw [Hy.out, Hb.out]
  clear Hy Hb
  go_region_held3 (fun y => y.cell? ⟨b1, 0, none⟩ = some (.int .i64 s) ∧ y.cell? ⟨b1, 1, none⟩ = some (.int .i64 d) ∧ y.cell? ⟨b2, 0, none⟩ = some (.int .i64 s') ∧ y.cell? ⟨b2, 1, none⟩ = some (.int .i64 d') ∧ b1 < y.heap.size ∧ b2 < y.heap.size ∧ w.heap.size ≤ y.heap.size ∧ Below w.heap.size w y) (first | exact ⟨c0, c1, c2, c3, l1, l2, l3, hw.drew⟩ | exact keepTwo (by assumption) hb2)
    (first | (go_at_call 12; refine (mask_any _ _ _ p1 p2 p3).mono ?_; rintro e w2 ⟨rfl, hb2⟩))
  clear c0 c1 c2 c3 l1 l2 l3 hw
  obtain ⟨c0, c1, c2, c3, l1, l2, l3, hw⟩ := ‹_ ∧ _ ∧ _ ∧ _ ∧ _ ∧ _ ∧ _ ∧ Below w.heap.size w _›
  clear ev
  generalize hcu : cut a1 d = u at u0 ⊢
  clear hcu
  have hset : ∀ W, Calls Try.prog 13 #[.int .u64 a0, .agg #[.int .i64 s, .int .i64 d], .int .u64 u] W fun e w' => e = .returned (.tuple #[.int .u64 (put a0 s d u), .bool true]) ∧ Below W.heap.size W w' := fun W => set_yes _ _ _ _ W a00 (by omega) p1 p2 p3 u0.1 u0.2
  have pb := put_bounds (a := a0) (s := s) (d := d) (v := u) a00 a01 p1 p2 p3 u0.1 u0.2
  have hget : ∀ W, Calls Try.prog 14 #[.int .u64 (put a0 s d u), .agg #[.int .i64 s, .int .i64 d]] W fun e w' => e = .returned (.int .u64 u) ∧ Below W.heap.size W w' := fun W => by
    have := get_any (put a0 s d u) s d W pb.1 pb.2 p1 p2 p3
    rw [get_put a00 a01 p1 p2 p3 u0.1 u0.2] at this
    exact this
  have hback : ∀ W, Calls Try.prog 13 #[.int .u64 (put a0 s d u), .agg #[.int .i64 s, .int .i64 d], .int .u64 ((Wd.get a0.toNat s.toNat d.toNat : Nat) : Int)] W fun e w' => e = .returned (.tuple #[.int .u64 a0, .bool true]) ∧ Below W.heap.size W w' := fun W => by
    have gl := get_le (a := a0) (s := s) p2
    have := set_yes (put a0 s d u) s d _ W pb.1 pb.2 p1 p2 p3 gl.1 gl.2
    rw [put_back a00 a01 p1 p2 p3 u0.1 u0.2] at this
    exact this
  have hfar : (s + d ≤ s' ∨ s' + d' ≤ s) → ∀ W, Calls Try.prog 14 #[.int .u64 (put a0 s d u), .agg #[.int .i64 s', .int .i64 d']] W fun e w' => e = .returned (.int .u64 ((Wd.get a0.toNat s'.toNat d'.toNat : Nat) : Int)) ∧ Below W.heap.size W w' := fun hf W => by
    have := get_any (put a0 s d u) s' d' W pb.1 pb.2 q1 q2 q3
    rw [get_far a00 a01 p1 p2 p3 u0.1 u0.2 q1 q2 q3 hf] at this
    exact this
  have hgw : ∀ W, Calls Try.prog 14 #[.int .u64 a0, .agg #[.int .i64 s', .int .i64 d']] W fun e w' => e = .returned (.int .u64 ((Wd.get a0.toNat s'.toNat d'.toNat : Nat) : Int)) ∧ Below W.heap.size W w' := fun W => get_any a0 s' d' W a00 (by omega) q1 q2 q3
  have hg0 : ∀ W, Calls Try.prog 14 #[.int .u64 a0, .agg #[.int .i64 s, .int .i64 d]] W fun e w' => e = .returned (.int .u64 ((Wd.get a0.toNat s.toNat d.toNat : Nat) : Int)) ∧ Below W.heap.size W w' := fun W => get_any a0 s d W a00 (by omega) p1 p2 p3
  generalize ((Wd.get a0.toNat s.toNat d.toNat : Nat) : Int) = g at hback hg0
  generalize ((Wd.get a0.toNat s'.toNat d'.toNat : Nat) : Int) = g' at hfar hgw
  generalize put a0 s d u = x at hset hget hback hfar pb
  have hm := masks_apart p1 p2 p3 q1 q2 q3
  have Hset := Lib.hid hset
  have Hget := Lib.hid hget
  have Hback := Lib.hid hback
  have Hfar := Lib.hid hfar
  have Hgw := Lib.hid hgw
  have Hg0 := Lib.hid hg0
  have Hm := Lib.hid hm
  clear hset hget hback hfar hgw hg0 hm
  go_wp2_with fail
  refine (Hset.out _).mono ?_
  rintro e w3 ⟨rfl, hb3⟩
  obtain ⟨c0, c1, c2, c3, l1, l2, l3, hw⟩ := keepTwo ⟨c0, c1, c2, c3, l1, l2, l3, hw⟩ hb3
  clear hb3
  go_wp2_with fail
  refine (Hget.out _).mono ?_
  rintro e w4 ⟨rfl, hb3⟩
  obtain ⟨c0, c1, c2, c3, l1, l2, l3, hw⟩ := keepTwo ⟨c0, c1, c2, c3, l1, l2, l3, hw⟩ hb3
  clear hb3
  by_cases hA : s + d ≤ s'
  · have e0 := Hm.out.2 (.inl hA)
    have hfa := Lib.hid (Hfar.out (.inl hA))
    go_wp2_with fail
    go_region_held3 (fun y => y.cell? ⟨b1, 0, none⟩ = some (.int .i64 s) ∧ y.cell? ⟨b1, 1, none⟩ = some (.int .i64 d) ∧ y.cell? ⟨b2, 0, none⟩ = some (.int .i64 s') ∧ y.cell? ⟨b2, 1, none⟩ = some (.int .i64 d') ∧ b1 < y.heap.size ∧ b2 < y.heap.size ∧ w.heap.size ≤ y.heap.size ∧ Below w.heap.size w y) (first | exact ⟨c0, c1, c2, c3, l1, l2, l3, hw.drew⟩ | exact keepTwo (by assumption) hb2)
      (first | (go_at_call 12; refine (mask_any _ _ _ (by omega) (by omega) (by omega)).mono ?_; rintro e w2 ⟨rfl, hb2⟩))
    all_goals
      clear c0 c1 c2 c3 l1 l2 l3 hw
      obtain ⟨c0, c1, c2, c3, l1, l2, l3, hw⟩ := ‹_ ∧ _ ∧ _ ∧ _ ∧ _ ∧ _ ∧ _ ∧ Below w.heap.size w _›
      go_wp2_with fail
      go_region_held3 (fun y => y.cell? ⟨b1, 0, none⟩ = some (.int .i64 s) ∧ y.cell? ⟨b1, 1, none⟩ = some (.int .i64 d) ∧ y.cell? ⟨b2, 0, none⟩ = some (.int .i64 s') ∧ y.cell? ⟨b2, 1, none⟩ = some (.int .i64 d') ∧ b1 < y.heap.size ∧ b2 < y.heap.size ∧ w.heap.size ≤ y.heap.size ∧ Below w.heap.size w y) (first | exact ⟨c0, c1, c2, c3, l1, l2, l3, hw.drew⟩ | exact keepTwo (by assumption) hb2)
        (first | (go_at_call 14; refine (Hg0.out _).mono ?_; rintro e w2 ⟨rfl, hb2⟩) | (go_at_call 13; refine (Hback.out _).mono ?_; rintro e w2 ⟨rfl, hb2⟩))
      clear c0 c1 c2 c3 l1 l2 l3 hw
      obtain ⟨c0, c1, c2, c3, l1, l2, l3, hw⟩ := ‹_ ∧ _ ∧ _ ∧ _ ∧ _ ∧ _ ∧ _ ∧ Below w.heap.size w _›
      go_wp2_with fail
    go_region_held3 (fun y => y.cell? ⟨b1, 0, none⟩ = some (.int .i64 s) ∧ y.cell? ⟨b1, 1, none⟩ = some (.int .i64 d) ∧ y.cell? ⟨b2, 0, none⟩ = some (.int .i64 s') ∧ y.cell? ⟨b2, 1, none⟩ = some (.int .i64 d') ∧ b1 < y.heap.size ∧ b2 < y.heap.size ∧ w.heap.size ≤ y.heap.size ∧ Below w.heap.size w y) (first | exact ⟨c0, c1, c2, c3, l1, l2, l3, hw.drew⟩ | exact keepTwo (by assumption) hb2)
      (first | (go_at_call_of 14 (Value.int .u64 x); refine (hfa.out _).mono ?_; rintro e w2 ⟨rfl, hb2⟩) | (go_at_call_of 14 (Value.int .u64 a0); refine (Hgw.out _).mono ?_; rintro e w2 ⟨rfl, hb2⟩))
    all_goals
      clear c0 c1 c2 c3 l1 l2 l3 hw
      obtain ⟨c0, c1, c2, c3, l1, l2, l3, hw⟩ := ‹_ ∧ _ ∧ _ ∧ _ ∧ _ ∧ _ ∧ _ ∧ Below w.heap.size w _›
      go_wp2
      go_ret
      exact ⟨rfl, hw⟩
  · by_cases hB : s' + d' ≤ s
    · have e0 := Hm.out.2 (.inr hB)
      have hfa := Lib.hid (Hfar.out (.inr hB))
      go_wp2_with fail
      go_region_held3 (fun y => y.cell? ⟨b1, 0, none⟩ = some (.int .i64 s) ∧ y.cell? ⟨b1, 1, none⟩ = some (.int .i64 d) ∧ y.cell? ⟨b2, 0, none⟩ = some (.int .i64 s') ∧ y.cell? ⟨b2, 1, none⟩ = some (.int .i64 d') ∧ b1 < y.heap.size ∧ b2 < y.heap.size ∧ w.heap.size ≤ y.heap.size ∧ Below w.heap.size w y) (first | exact ⟨c0, c1, c2, c3, l1, l2, l3, hw.drew⟩ | exact keepTwo (by assumption) hb2)
        (first | (go_at_call 12; refine (mask_any _ _ _ (by omega) (by omega) (by omega)).mono ?_; rintro e w2 ⟨rfl, hb2⟩))
      all_goals
        clear c0 c1 c2 c3 l1 l2 l3 hw
        obtain ⟨c0, c1, c2, c3, l1, l2, l3, hw⟩ := ‹_ ∧ _ ∧ _ ∧ _ ∧ _ ∧ _ ∧ _ ∧ Below w.heap.size w _›
        go_wp2_with fail
        go_region_held3 (fun y => y.cell? ⟨b1, 0, none⟩ = some (.int .i64 s) ∧ y.cell? ⟨b1, 1, none⟩ = some (.int .i64 d) ∧ y.cell? ⟨b2, 0, none⟩ = some (.int .i64 s') ∧ y.cell? ⟨b2, 1, none⟩ = some (.int .i64 d') ∧ b1 < y.heap.size ∧ b2 < y.heap.size ∧ w.heap.size ≤ y.heap.size ∧ Below w.heap.size w y) (first | exact ⟨c0, c1, c2, c3, l1, l2, l3, hw.drew⟩ | exact keepTwo (by assumption) hb2)
          (first | (go_at_call 14; refine (Hg0.out _).mono ?_; rintro e w2 ⟨rfl, hb2⟩) | (go_at_call 13; refine (Hback.out _).mono ?_; rintro e w2 ⟨rfl, hb2⟩))
        clear c0 c1 c2 c3 l1 l2 l3 hw
        obtain ⟨c0, c1, c2, c3, l1, l2, l3, hw⟩ := ‹_ ∧ _ ∧ _ ∧ _ ∧ _ ∧ _ ∧ _ ∧ Below w.heap.size w _›
        go_wp2_with fail
      go_region_held3 (fun y => y.cell? ⟨b1, 0, none⟩ = some (.int .i64 s) ∧ y.cell? ⟨b1, 1, none⟩ = some (.int .i64 d) ∧ y.cell? ⟨b2, 0, none⟩ = some (.int .i64 s') ∧ y.cell? ⟨b2, 1, none⟩ = some (.int .i64 d') ∧ b1 < y.heap.size ∧ b2 < y.heap.size ∧ w.heap.size ≤ y.heap.size ∧ Below w.heap.size w y) (first | exact ⟨c0, c1, c2, c3, l1, l2, l3, hw.drew⟩ | exact keepTwo (by assumption) hb2)
        (first | (go_at_call_of 14 (Value.int .u64 x); refine (hfa.out _).mono ?_; rintro e w2 ⟨rfl, hb2⟩) | (go_at_call_of 14 (Value.int .u64 a0); refine (Hgw.out _).mono ?_; rintro e w2 ⟨rfl, hb2⟩))
      all_goals
        clear c0 c1 c2 c3 l1 l2 l3 hw
        obtain ⟨c0, c1, c2, c3, l1, l2, l3, hw⟩ := ‹_ ∧ _ ∧ _ ∧ _ ∧ _ ∧ _ ∧ _ ∧ Below w.heap.size w _›
        go_wp2
        go_ret
        exact ⟨rfl, hw⟩
    · have e0 : (bits .and .u64 ((Wd.mask s.toNat d.toNat : Nat) : Int) ((Wd.mask s'.toNat d'.toNat : Nat) : Int) == 0) = false := beq_eq_false_iff_ne.2 (fun h => by have := Hm.out.1 h; omega)
      have d1 : decide (s + d ≤ s') = false := decide_eq_false hA
      have d2 : decide (s' + d' ≤ s) = false := decide_eq_false hB
      go_wp2_with fail
      go_region_held3 (fun y => y.cell? ⟨b1, 0, none⟩ = some (.int .i64 s) ∧ y.cell? ⟨b1, 1, none⟩ = some (.int .i64 d) ∧ y.cell? ⟨b2, 0, none⟩ = some (.int .i64 s') ∧ y.cell? ⟨b2, 1, none⟩ = some (.int .i64 d') ∧ b1 < y.heap.size ∧ b2 < y.heap.size ∧ w.heap.size ≤ y.heap.size ∧ Below w.heap.size w y) (first | exact ⟨c0, c1, c2, c3, l1, l2, l3, hw.drew⟩ | exact keepTwo (by assumption) hb2)
        (first | (go_at_call 12; refine (mask_any _ _ _ (by omega) (by omega) (by omega)).mono ?_; rintro e w2 ⟨rfl, hb2⟩))
      all_goals
        clear c0 c1 c2 c3 l1 l2 l3 hw
        obtain ⟨c0, c1, c2, c3, l1, l2, l3, hw⟩ := ‹_ ∧ _ ∧ _ ∧ _ ∧ _ ∧ _ ∧ _ ∧ Below w.heap.size w _›
        go_wp2_with fail
        go_region_held3 (fun y => y.cell? ⟨b1, 0, none⟩ = some (.int .i64 s) ∧ y.cell? ⟨b1, 1, none⟩ = some (.int .i64 d) ∧ y.cell? ⟨b2, 0, none⟩ = some (.int .i64 s') ∧ y.cell? ⟨b2, 1, none⟩ = some (.int .i64 d') ∧ b1 < y.heap.size ∧ b2 < y.heap.size ∧ w.heap.size ≤ y.heap.size ∧ Below w.heap.size w y) (first | exact ⟨c0, c1, c2, c3, l1, l2, l3, hw.drew⟩ | exact keepTwo (by assumption) hb2)
          (first | (go_at_call 14; refine (Hg0.out _).mono ?_; rintro e w2 ⟨rfl, hb2⟩) | (go_at_call 13; refine (Hback.out _).mono ?_; rintro e w2 ⟨rfl, hb2⟩))
        clear c0 c1 c2 c3 l1 l2 l3 hw
        obtain ⟨c0, c1, c2, c3, l1, l2, l3, hw⟩ := ‹_ ∧ _ ∧ _ ∧ _ ∧ _ ∧ _ ∧ _ ∧ Below w.heap.size w _›
        go_wp2_with fail
      go_quiet (fail)
      go_wp2
      go_ret
      exact ⟨rfl, below_drewN hw _⟩

set_option maxRecDepth 100000 in
theorem lifted (os : Os) (started : os.Started) (H : Type) (enc : TypeId × Value → H) :
    ReturnsInHanded {} Try.checked os 3 .any (Rows.wordSetsSpec.pre6 enc Try.prog Try.f3 Rows.wordSetsRow.domain false) (Rows.wordSetsSpec.post enc Try.prog Try.f3 false true false false) := by
  refine returnsInHanded_of_change (C := Try.checked) own started (by kernel_rfl) Try.func3
    (ChangeSpec.witness6 (enc := enc) (C := Try.checked) false ⟨#[], #[.int .u64 0, .int .u64 0, .agg #[.int .i64 0, .int .i64 0], .agg #[.int .i64 0, .int .i64 0]], []⟩ 8 (by kernel_rfl) (by kernel_rfl) (by kernel_rfl) (by kernel_rfl)) ?_
  intro W base args ds gs before hval0 hW hcnd _
  have hval : ∀ (j : Nat) t v, Try.f3.params[j]? = some t → args[j]? = some v → Value.okWide Try.prog W .any base t v := hval0
  have hW' := hW
  obtain ⟨p, q, hA0, hV, rfl, hfz, hnd⟩ := hW
  have hA : DataW.TrodAll enc Try.prog W 0 (fun _ => true) true Try.f3.params.toList args.toList ds p := hA0
  rw [Try.params3] at hA hval
  obtain ⟨v0, vs0, d0, ds0, p0, q0, hargs, rfl, rfl, h0, r0⟩ := trodAll_cons hA
  obtain ⟨v1, vs1, d1, ds1, p1, q1, rfl, rfl, rfl, h1, r1⟩ := trodAll_cons r0
  obtain ⟨v2, vs2, d2, ds2, p2, q2, rfl, rfl, rfl, h2, r2⟩ := trodAll_cons r1
  obtain ⟨v3, vs3, d3, ds3, p3, q3, rfl, rfl, rfl, h3, r3⟩ := trodAll_cons r2
  obtain ⟨rfl, rfl, rfl⟩ := trodAll_nil r3
  obtain rfl : args = #[v0, v1, v2, v3] := by cases args; simp_all
  obtain ⟨rfl, rfl⟩ := trodVars_none hV
  obtain ⟨a0, rfl, rfl, rfl, w0⟩ := open_int Try.underlying22 (hval 0 22 v0 rfl rfl) h0
  obtain ⟨a1, rfl, rfl, rfl, w1⟩ := open_int Try.underlying22 (hval 1 22 v1 rfl rfl) h1
  have k2 := h2
  have lt2 : ∀ x ∈ p2, x.block < W.heap.size := by obtain ⟨m, hm⟩ := k2; exact DataW.trod_lt m _ _ _ hm
  have ce2 : Try.prog.cellsOf 3 = 1 := by kernel_rfl
  have cc2 : Try.prog.cellsOf 23 = 2 := by kernel_rfl
  have x2 := open_ints_array Try.underlying23 Try.underlying3 ce2 cc2 (hval 2 23 v2 rfl rfl) h2
  obtain ⟨z2, hl2, hv2, hz2⟩ := x2
  subst hv2
  have y2 := list2 hl2
  obtain ⟨a2x0, a2x1, hy2⟩ := y2
  subst hy2
  have w2x0 := bounds_i64 (hz2 a2x0 (by simp))
  have w2x1 := bounds_i64 (hz2 a2x1 (by simp))
  have k3 := h3
  have lt3 : ∀ x ∈ p3, x.block < W.heap.size := by obtain ⟨m, hm⟩ := k3; exact DataW.trod_lt m _ _ _ hm
  have ce3 : Try.prog.cellsOf 3 = 1 := by kernel_rfl
  have cc3 : Try.prog.cellsOf 23 = 2 := by kernel_rfl
  have x3 := open_ints_array Try.underlying23 Try.underlying3 ce3 cc3 (hval 3 23 v3 rfl rfl) h3
  obtain ⟨z3, hl3, hv3, hz3⟩ := x3
  subst hv3
  have y3 := list2 hl3
  obtain ⟨a3x0, a3x1, hy3⟩ := y3
  subst hy3
  have w3x0 := bounds_i64 (hz3 a3x0 (by simp))
  have w3x1 := bounds_i64 (hz3 a3x1 (by simp))
  clear hA0 hval0
  refine (walk a0 a1 a2x0 a2x1 a3x0 a3x1 W (bounds_u64 w0) (bounds_u64 w1) w2x0 w2x1 w3x0 w3x1).mono fun e W' ⟨he, bel⟩ => ?_
  subst he
  exact ⟨_, rfl, _, _, _, [], _, [], hW', trodAll_mk1 (shut_bool Try.underlying4 _), (trodAll_cons_mk (shut_int Try.underlying22 w0) (trodAll_cons_mk (shut_int Try.underlying22 w1) (trodAll_cons_mk (Below.trod laidOut (by kernel_rfl) (of_decide_eq_true (by kernel_rfl)) k2 bel lt2) (trodAll_cons_mk (Below.trod laidOut (by kernel_rfl) (of_decide_eq_true (by kernel_rfl)) k3 bel lt3) trodAll_mk0)))), rfl, bel.frame _, fun h => by cases h⟩

theorem over : Rows.wordSetsRow.holds Try.pinned (OpenSpec.ofChange Rows.wordSetsSpec) :=
  OpenClaim.holds_of_wide 3 Try.f3 rfl rfl rfl rfl rfl rfl rfl ⟨rfl, rfl, rfl, rfl, rfl⟩ rfl rfl rfl rfl rfl (by kernel_rfl) Try.func3 (by kernel_rfl)
    (of_decide_eq_true (by kernel_rfl)) (by unfold Func.isWrapper; first | (rw [if_pos (by decide +kernel)]; kernel_rfl) | (rw [if_neg (by decide +kernel)]; exact ⟨rfl, rfl⟩))
    (fun os started H enc _ => lifted os started H enc)

theorem proved : Rows.WordSetsSaid := over
#print axioms proved

end Go.Proofs.Ytadncljhckakmaa.wordSets
