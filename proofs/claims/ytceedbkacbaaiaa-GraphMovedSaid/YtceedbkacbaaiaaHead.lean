/- Package header: part, lay, read, flag, isCount, Right, Size, Head, Shape, Gone, Where, Free, Held, Owner are as the document says. Conditions: parts lie in a word, numbers fit. -/
import Derived.Test.YtceedbkacbaaiaaWordPart
import Derived.Test.YtceedbkacbaaiaaMem
namespace Go.Proofs.Ytceedbkacbaaiaa
open Go.ChangeShapes Go.WideShapes Go.ChangeAt Go.RowKit

set_option linter.unusedSimpArgs false
set_option linter.unusedVariables false

theorem part_any (f t : Int) (w : World) (h0 : 0 ≤ f) (h1 : f ≤ t) (h2 : t ≤ 64) :
    Calls Try.prog 81 #[.int .i64 f, .int .i64 t] w fun e w' => e = .returned (.agg #[.int .i64 f, .int .i64 (t - f)]) ∧ Below w.heap.size w w' := by
  have hw : IntKind.i64.wrap (t - f) = t - f := IntWalk.i64_in _ (by omega)
  go_enter Try.func81, Try.ntmps81
  go_wp2
  refine bodyPost_ret (v := .agg #[.int .i64 f, .int .i64 (t - f)]) ?_ rfl ⟨rfl, (Below.refl _ w).alloc (Nat.le_refl _) _⟩
  simp [results, Try.f81, go_sem]

theorem set_zero {n s d : Nat} (h : s + d ≤ 64) (hn : n < 2 ^ d) : Wd.set 0 s d n = n * 2 ^ s := by
  unfold Wd.set
  rw [Nat.zero_and, Nat.zero_or, Nat.shiftLeft_eq]
theorem get_mod (w s d : Nat) : Wd.get w s d = w / 2 ^ s % 2 ^ d := by
  unfold Wd.get Wd.most
  rw [Nat.shiftRight_eq_div_pow, Nat.and_two_pow_sub_one_eq_mod]

theorem lay_at (n s t : Nat) (hs : s < t) (ht : t ≤ 64) (hn : n < 2 ^ (t - s)) (hm : n < 9223372036854775808) (w : World) :
    Calls Try.prog 67 #[.int .i64 n, .int .i64 s, .int .i64 t] w fun e w' => e = .returned (.int .u64 ((n * 2 ^ s : Nat) : Int)) ∧ Below w.heap.size w w' := by
  have hM : (n : Int) ≤ ((Wd.most ((t : Int) - (s : Int)).toNat : Nat) : Int) := by
    rw [show ((t : Int) - (s : Int)).toNat = t - s from by omega]; unfold Wd.most; have := Nat.two_pow_pos (t - s); omega
  have hP := fun w => part_any (s : Int) (t : Int) w (by omega) (by omega) (by omega)
  have hS := fun w => set_yes 0 (s : Int) ((t : Int) - (s : Int)) (n : Int) w (by omega) (by omega) (by omega) (by omega) (by omega) (by omega) hM
  have hv : ((Wd.set (0 : Int).toNat (s : Int).toNat ((t : Int) - (s : Int)).toNat (n : Int).toNat : Nat) : Int) = ((n * 2 ^ s : Nat) : Int) := by
    rw [show ((t : Int) - (s : Int)).toNat = t - s from by omega, Int.toNat_natCast, Int.toNat_natCast]
    rw [show (0 : Int).toNat = 0 from rfl, set_zero (by omega) hn]
  simp only [hv] at hS
  clear hv
  obtain ⟨u, hu⟩ : ∃ u, n * 2 ^ s = u := ⟨_, rfl⟩
  rw [hu] at hS ⊢
  clear hu
  have HS := Lib.hid hS
  have hc : IntKind.u64.wrap (n : Int) = (n : Int) := by rw [IntKind.wrap_u64]; omega
  clear hS hM
  go_enter Try.func67, Try.ntmps67
  go_wp2_with fail
  refine (hP _).mono ?_
  rintro e x ⟨rfl, hb⟩
  have hs1 := hb.size
  go_wp2_with fail
  refine (HS.out _).mono ?_
  rintro e y ⟨rfl, hb2⟩
  go_wp2
  go_ret
  exact ⟨rfl, hb.trans (hb2.mono hs1)⟩

theorem read_at (a s t : Nat) (hs : s < t) (ht : t ≤ 64) (hd : t - s ≤ 63) (ha : a < 18446744073709551616) (w : World) :
    Calls Try.prog 68 #[.int .u64 a, .int .i64 s, .int .i64 t] w fun e w' => e = .returned (.int .i64 ((a / 2 ^ s % 2 ^ (t - s) : Nat) : Int)) ∧ Below w.heap.size w w' := by
  have hP := fun w => part_any (s : Int) (t : Int) w (by omega) (by omega) (by omega)
  have hG := fun w => get_any (a : Int) (s : Int) ((t : Int) - (s : Int)) w (by omega) (by omega) (by omega) (by omega) (by omega)
  simp only [show ((t : Int) - (s : Int)).toNat = t - s from by omega, Int.toNat_natCast, get_mod] at hG
  have hl : a / 2 ^ s % 2 ^ (t - s) < 9223372036854775808 := by
    have h1 := Nat.mod_lt (a / 2 ^ s) (Nat.two_pow_pos (t - s))
    have h2 := Nat.pow_le_pow_right (n := 2) (by omega) hd
    have h3 : (2 : Nat) ^ 63 = 9223372036854775808 := by decide
    omega
  obtain ⟨v, hv⟩ : ∃ v, a / 2 ^ s % 2 ^ (t - s) = v := ⟨_, rfl⟩
  rw [hv] at hG hl ⊢
  have HG := Lib.hid hG
  have hc : IntKind.i64.wrap (v : Int) = (v : Int) := IntWalk.i64_in _ (by omega)
  clear hG hv
  go_enter Try.func68, Try.ntmps68
  go_wp2_with fail
  refine (hP _).mono ?_
  rintro e x ⟨rfl, hb⟩
  have hs1 := hb.size
  go_wp2_with fail
  refine (HG.out _).mono ?_
  rintro e y ⟨rfl, hb2⟩
  go_wp2
  go_ret
  exact ⟨rfl, hb.trans (hb2.mono hs1)⟩

theorem flag_any (b : Bool) (w : World) : Calls Try.prog 73 #[.bool b] w fun e w' => e = .returned (.int .i64 (b.toNat : Nat)) ∧ w = w' := by
  go_enter Try.func73, Try.ntmps73
  cases b
  · go_wp2
    go_ret
    exact ⟨rfl, rfl⟩
  · go_wp2
    go_ret
    exact ⟨rfl, rfl⟩

def cnt (n : Int) : Bool := decide (0 ≤ n ∧ n ≤ 8)
theorem count_any (n : Int) (w : World) : Calls Try.prog 83 #[.int .i64 n] w fun e w' => e = .returned (.bool (cnt n)) ∧ Below w.heap.size w w' := by
  go_enter Try.func83, Try.ntmps83
  unfold cnt
  by_cases h : 0 ≤ n
  · have d1 : decide (0 ≤ n) = true := decide_eq_true h
    by_cases h2 : n ≤ 8
    · have d2 : decide (n ≤ 8) = true := decide_eq_true h2
      rw [decide_eq_true (show 0 ≤ n ∧ n ≤ 8 from ⟨h, h2⟩)]
      go_wp2
      go_ret
      exact ⟨rfl, Below.refl _ _⟩
    · have d2 : decide (n ≤ 8) = false := decide_eq_false h2
      rw [decide_eq_false (show ¬ (0 ≤ n ∧ n ≤ 8) from fun x => h2 x.2)]
      go_wp2
      go_ret
      exact ⟨rfl, Below.refl _ _⟩
  · have d1 : decide (0 ≤ n) = false := decide_eq_false h
    rw [decide_eq_false (show ¬ (0 ≤ n ∧ n ≤ 8) from fun x => h x.1)]
    go_wp2
    go_ret
    exact ⟨rfl, Below.refl _ _⟩


/-- Whether a shape may be. -/
def shB (p d : Int) (wk fn : Bool) : Bool := if wk then decide (p = 1) && decide (d = 0) && !fn else cnt p && cnt d
abbrev shV (p d : Int) (wk fn : Bool) : Value := .agg #[.int .i64 p, .int .i64 d, .bool wk, .bool fn]
/-- A shape that lies in block k, behind w. -/
abbrev ShAt (w x : World) (k : Nat) (p d : Int) (wk fn : Bool) : Prop :=
  x.cell? ⟨k, 0, none⟩ = some (.int .i64 p) ∧ x.cell? ⟨k, 1, none⟩ = some (.int .i64 d) ∧ x.cell? ⟨k, 2, none⟩ = some (.bool wk) ∧ x.cell? ⟨k, 3, none⟩ = some (.bool fn) ∧ w.heap.size ≤ x.heap.size ∧ k < x.heap.size ∧ Below w.heap.size w x
theorem keepSh {w x y : World} {k : Nat} {p d : Int} {wk fn : Bool} (h : ShAt w x k p d wk fn) (hb : Below x.heap.size x y) : ShAt w y k p d wk fn := by
  obtain ⟨c0, c1, c2, c3, hs, hk, hB⟩ := h
  exact ⟨(hb.cell (p := ⟨k, 0, none⟩) hk).trans c0, (hb.cell (p := ⟨k, 1, none⟩) hk).trans c1, (hb.cell (p := ⟨k, 2, none⟩) hk).trans c2, (hb.cell (p := ⟨k, 3, none⟩) hk).trans c3,
    Nat.le_trans hs hb.size, Nat.lt_of_lt_of_le hk hb.size, hB.trans (hb.mono hs)⟩
theorem newSh (w : World) (p d : Int) (wk fn : Bool) (ty : TypeId) : ShAt w (w.alloc (.cells #[.int .i64 p, .int .i64 d, .bool wk, .bool fn] ty)) w.heap.size p d wk fn :=
  ⟨by simp, by simp, by simp, by simp, by simp, by simp, (Below.refl _ _).alloc (Nat.le_refl _) _⟩

theorem right_sh (p d : Int) (wk fn : Bool) (w : World) :
    Calls Try.prog 69 #[shV p d wk fn] w fun e w' => e = .returned (.bool (shB p d wk fn)) ∧ Below w.heap.size w w' := by
  go_enter Try.func69, Try.ntmps69
  cases wk
  · have hP := count_any p
    have hD := count_any d
    rw [show shB p d false fn = (cnt p && cnt d) from rfl]
    generalize cnt p = cp at *
    generalize cnt d = cd at *
    cases cp
    · go_wp2_with fail
      refine (hP _).mono ?_
      rintro e x ⟨rfl, hb⟩
      go_wp2
      go_ret
      exact ⟨rfl, ((Below.refl _ w).alloc (Nat.le_refl _) _).trans (hb.mono (by simp))⟩
    · go_wp2_with fail
      refine (hP _).mono ?_
      rintro e x ⟨rfl, hb⟩
      have h0 := keepSh (newSh w p d false fn 51) hb
      clear hb
      obtain ⟨c0, c1, c2, c3, s1, k1, hB⟩ := h0
      go_wp2_with fail
      refine (hD _).mono ?_
      rintro e y ⟨rfl, hb2⟩
      go_wp2
      go_ret
      exact ⟨rfl, hB.trans (hb2.mono s1)⟩
  · rw [show shB p d true fn = (decide (p = 1) && decide (d = 0) && !fn) from rfl]
    go_wp2
    all_goals
      go_ret
      exact ⟨by simp [*], (Below.refl _ w).alloc (Nat.le_refl _) _⟩

theorem size_yes (p d : Nat) (wk fn : Bool) (h : shB p d wk fn = true) (hp : p ≤ 8) (hd : d ≤ 8) (w : World) :
    Calls Try.prog 43 #[shV p d wk fn] w fun e w' => e = .returned (.tuple #[.int .i64 (3 + (p : Int) + (d : Int)), .bool true]) ∧ Below w.heap.size w w' := by
  have hR := right_sh p d wk fn
  rw [h] at hR
  have i1 : IntKind.i64.wrap (3 + (p : Int)) = 3 + (p : Int) := IntWalk.i64_in _ (by omega)
  have i2 : IntKind.i64.wrap (3 + (p : Int) + (d : Int)) = 3 + (p : Int) + (d : Int) := IntWalk.i64_in _ (by omega)
  clear h
  go_enter Try.func43, Try.ntmps43
  go_wp2_with fail
  refine (hR _).mono ?_
  rintro e x ⟨rfl, hb⟩
  obtain ⟨c0, c1, c2, c3, s1, k1, hB⟩ := keepSh (newSh w p d wk fn 51) hb
  clear hb
  go_wp2
  go_ret2
  exact ⟨rfl, hB⟩
theorem size_no (p d : Int) (wk fn : Bool) (h : shB p d wk fn = false) (w : World) :
    Calls Try.prog 43 #[shV p d wk fn] w fun e w' => e = .returned (.tuple #[.int .i64 0, .bool false]) ∧ Below w.heap.size w w' := by
  have hR := right_sh p d wk fn
  rw [h] at hR
  clear h
  go_enter Try.func43, Try.ntmps43
  go_wp2_with fail
  refine (hR _).mono ?_
  rintro e x ⟨rfl, hb⟩
  obtain ⟨c0, c1, c2, c3, s1, k1, hB⟩ := keepSh (newSh w p d wk fn 51) hb
  clear hb
  go_wp2
  go_ret2
  exact ⟨rfl, hB⟩

/-! ### Parts as they are named -/
theorem lay_0_1 (n : Nat) (hn : n < 2) (hm : n < 9223372036854775808) (w : World) : Calls Try.prog 67 #[.int .i64 n, .int .i64 0, .int .i64 1] w fun e w' => e = .returned (.int .u64 (n * 1 : Nat)) ∧ Below w.heap.size w w' :=
  lay_at n 0 1 (by omega) (by omega) (by omega) hm w
theorem lay_1_2 (n : Nat) (hn : n < 2) (hm : n < 9223372036854775808) (w : World) : Calls Try.prog 67 #[.int .i64 n, .int .i64 1, .int .i64 2] w fun e w' => e = .returned (.int .u64 (n * 2 : Nat)) ∧ Below w.heap.size w w' :=
  lay_at n 1 2 (by omega) (by omega) (by omega) hm w
theorem lay_1_5 (n : Nat) (hn : n < 16) (hm : n < 9223372036854775808) (w : World) : Calls Try.prog 67 #[.int .i64 n, .int .i64 1, .int .i64 5] w fun e w' => e = .returned (.int .u64 (n * 2 : Nat)) ∧ Below w.heap.size w w' :=
  lay_at n 1 5 (by omega) (by omega) (by omega) hm w
theorem lay_5_9 (n : Nat) (hn : n < 16) (hm : n < 9223372036854775808) (w : World) : Calls Try.prog 67 #[.int .i64 n, .int .i64 5, .int .i64 9] w fun e w' => e = .returned (.int .u64 (n * 32 : Nat)) ∧ Below w.heap.size w w' :=
  lay_at n 5 9 (by omega) (by omega) (by omega) hm w
theorem lay_9_10 (n : Nat) (hn : n < 2) (hm : n < 9223372036854775808) (w : World) : Calls Try.prog 67 #[.int .i64 n, .int .i64 9, .int .i64 10] w fun e w' => e = .returned (.int .u64 (n * 512 : Nat)) ∧ Below w.heap.size w w' :=
  lay_at n 9 10 (by omega) (by omega) (by omega) hm w
theorem lay_10_11 (n : Nat) (hn : n < 2) (hm : n < 9223372036854775808) (w : World) : Calls Try.prog 67 #[.int .i64 n, .int .i64 10, .int .i64 11] w fun e w' => e = .returned (.int .u64 (n * 1024 : Nat)) ∧ Below w.heap.size w w' :=
  lay_at n 10 11 (by omega) (by omega) (by omega) hm w
theorem lay_11_12 (n : Nat) (hn : n < 2) (hm : n < 9223372036854775808) (w : World) : Calls Try.prog 67 #[.int .i64 n, .int .i64 11, .int .i64 12] w fun e w' => e = .returned (.int .u64 (n * 2048 : Nat)) ∧ Below w.heap.size w w' :=
  lay_at n 11 12 (by omega) (by omega) (by omega) hm w
theorem lay_2_64 (n : Nat) (hn : n < 4611686018427387904) (hm : n < 9223372036854775808) (w : World) : Calls Try.prog 67 #[.int .i64 n, .int .i64 2, .int .i64 64] w fun e w' => e = .returned (.int .u64 (n * 4 : Nat)) ∧ Below w.heap.size w w' :=
  lay_at n 2 64 (by omega) (by omega) (by omega) hm w
theorem lay_1_64 (n : Nat) (hn : n < 9223372036854775808) (hm : n < 9223372036854775808) (w : World) : Calls Try.prog 67 #[.int .i64 n, .int .i64 1, .int .i64 64] w fun e w' => e = .returned (.int .u64 (n * 2 : Nat)) ∧ Below w.heap.size w w' :=
  lay_at n 1 64 (by omega) (by omega) (by omega) hm w
theorem read_1_5 (a : Nat) (ha : a < 18446744073709551616) (w : World) : Calls Try.prog 68 #[.int .u64 a, .int .i64 1, .int .i64 5] w fun e w' => e = .returned (.int .i64 (a / 2 % 16 : Nat)) ∧ Below w.heap.size w w' :=
  read_at a 1 5 (by omega) (by omega) (by omega) ha w
theorem read_5_9 (a : Nat) (ha : a < 18446744073709551616) (w : World) : Calls Try.prog 68 #[.int .u64 a, .int .i64 5, .int .i64 9] w fun e w' => e = .returned (.int .i64 (a / 32 % 16 : Nat)) ∧ Below w.heap.size w w' :=
  read_at a 5 9 (by omega) (by omega) (by omega) ha w
theorem read_9_10 (a : Nat) (ha : a < 18446744073709551616) (w : World) : Calls Try.prog 68 #[.int .u64 a, .int .i64 9, .int .i64 10] w fun e w' => e = .returned (.int .i64 (a / 512 % 2 : Nat)) ∧ Below w.heap.size w w' :=
  read_at a 9 10 (by omega) (by omega) (by omega) ha w
theorem read_10_11 (a : Nat) (ha : a < 18446744073709551616) (w : World) : Calls Try.prog 68 #[.int .u64 a, .int .i64 10, .int .i64 11] w fun e w' => e = .returned (.int .i64 (a / 1024 % 2 : Nat)) ∧ Below w.heap.size w w' :=
  read_at a 10 11 (by omega) (by omega) (by omega) ha w
theorem read_11_12 (a : Nat) (ha : a < 18446744073709551616) (w : World) : Calls Try.prog 68 #[.int .u64 a, .int .i64 11, .int .i64 12] w fun e w' => e = .returned (.int .i64 (a / 2048 % 2 : Nat)) ∧ Below w.heap.size w w' :=
  read_at a 11 12 (by omega) (by omega) (by omega) ha w
theorem read_2_64 (a : Nat) (ha : a < 18446744073709551616) (w : World) : Calls Try.prog 68 #[.int .u64 a, .int .i64 2, .int .i64 64] w fun e w' => e = .returned (.int .i64 (a / 4 % 4611686018427387904 : Nat)) ∧ Below w.heap.size w w' :=
  read_at a 2 64 (by omega) (by omega) (by omega) ha w
theorem read_1_64 (a : Nat) (ha : a < 18446744073709551616) (w : World) : Calls Try.prog 68 #[.int .u64 a, .int .i64 1, .int .i64 64] w fun e w' => e = .returned (.int .i64 (a / 2 % 9223372036854775808 : Nat)) ∧ Below w.heap.size w w' :=
  read_at a 1 64 (by omega) (by omega) (by omega) ha w
theorem lay_one_0_1 (w : World) : Calls Try.prog 67 #[.int .i64 1, .int .i64 0, .int .i64 1] w fun e w' => e = .returned (.int .u64 1) ∧ Below w.heap.size w w' := lay_0_1 1 (by omega) (by omega) w
theorem lay_one_1_2 (w : World) : Calls Try.prog 67 #[.int .i64 1, .int .i64 1, .int .i64 2] w fun e w' => e = .returned (.int .u64 2) ∧ Below w.heap.size w w' := lay_1_2 1 (by omega) (by omega) w

/-! ### Heads -/
def headN (p d : Nat) (wk fn fr : Bool) : Nat := 1 + 2 * p + 32 * d + 512 * wk.toNat + 1024 * fn.toNat + 2048 * fr.toNat

theorem or_val (x y k z : Nat) (hx : x < 2 ^ k) (hy : y = 2 ^ k * z) (h1 : x < 18446744073709551616) (h2 : y < 18446744073709551616) : bits .or .u64 (x : Int) (y : Int) = ((x + y : Nat) : Int) := by
  rw [u64_or_nat _ _ h1 h2, Nat.or_comm, hy, ← Nat.two_pow_add_eq_or_of_lt hx, Nat.add_comm]

set_option maxRecDepth 100000 in
set_option maxHeartbeats 2000000 in
theorem head_yes (p d : Nat) (wk fn fr : Bool) (h : shB p d wk fn = true) (hp : p ≤ 8) (hd : d ≤ 8) (w : World) :
    Calls Try.prog 51 #[shV p d wk fn, .bool fr] w fun e w' => e = .returned (.tuple #[.int .u64 (headN p d wk fn fr : Nat), .bool true]) ∧ Below w.heap.size w w' := by
  have hR := right_sh p d wk fn
  rw [h] at hR
  clear h
  have F1 := flag_any wk
  have F2 := flag_any fn
  have F3 := flag_any fr
  have b1 : wk.toNat < 2 := by cases wk <;> decide
  have b2 : fn.toNat < 2 := by cases fn <;> decide
  have b3 : fr.toNat < 2 := by cases fr <;> decide
  unfold headN
  generalize wk.toNat = k1 at *
  generalize fn.toNat = k2 at *
  generalize fr.toNat = k3 at *
  have L1 := lay_1_5 p (by omega) (by omega)
  have L2 := lay_5_9 d (by omega) (by omega)
  have L3 := lay_9_10 k1 (by omega) (by omega)
  have L4 := lay_10_11 k2 (by omega) (by omega)
  have L5 := lay_11_12 k3 (by omega) (by omega)
  have o1 : bits .or .u64 1 _ = _ := or_val 1 (p * 2) 1 p (by omega) (by omega) (by omega) (by omega)
  have o2 := or_val (1 + p * 2) (d * 32) 5 d (by omega) (by omega) (by omega) (by omega)
  have o3 := or_val (1 + p * 2 + d * 32) (k1 * 512) 9 k1 (by omega) (by omega) (by omega) (by omega)
  have o4 := or_val (1 + p * 2 + d * 32 + k1 * 512) (k2 * 1024) 10 k2 (by omega) (by omega) (by omega) (by omega)
  have o5 := or_val (1 + p * 2 + d * 32 + k1 * 512 + k2 * 1024) (k3 * 2048) 11 k3 (by omega) (by omega) (by omega) (by omega)
  obtain ⟨v5, hv5⟩ : ∃ v, 1 + p * 2 + d * 32 + k1 * 512 + k2 * 1024 + k3 * 2048 = v := ⟨_, rfl⟩
  have hv : Hid (1 + 2 * p + 32 * d + 512 * k1 + 1024 * k2 + 2048 * k3 = v5) := Lib.hid (by omega)
  rw [hv5] at o5
  clear hv5
  generalize 1 + p * 2 + d * 32 + k1 * 512 + k2 * 1024 = v4 at *
  generalize 1 + p * 2 + d * 32 + k1 * 512 = v3 at *
  generalize 1 + p * 2 + d * 32 = v2 at *
  generalize 1 + p * 2 = v1 at *
  generalize p * 2 = u1 at *
  generalize d * 32 = u2 at *
  generalize k1 * 512 = u3 at *
  generalize k2 * 1024 = u4 at *
  generalize k3 * 2048 = u5 at *
  go_enter Try.func51, Try.ntmps51
  go_wp2_with fail
  refine (hR _).mono ?_
  rintro e x ⟨rfl, hb⟩
  obtain ⟨c0, c1, c2, c3, s1, l1, hB⟩ := keepSh (newSh w p d wk fn 51) hb
  clear hb
  go_wp2_with fail
  refine (lay_one_0_1 _).mono ?_
  rintro e x2 ⟨rfl, hb⟩
  obtain ⟨c0, c1, c2, c3, s1, l1, hB⟩ := keepSh ⟨c0, c1, c2, c3, s1, l1, hB⟩ hb
  clear hb
  go_wp2_with fail
  refine (L1 _).mono ?_
  rintro e x ⟨rfl, hb⟩
  obtain ⟨c0, c1, c2, c3, s1, l1, hB⟩ := keepSh ⟨c0, c1, c2, c3, s1, l1, hB⟩ hb
  clear hb
  go_wp2_with fail
  refine (L2 _).mono ?_
  rintro e x ⟨rfl, hb⟩
  obtain ⟨c0, c1, c2, c3, s1, l1, hB⟩ := keepSh ⟨c0, c1, c2, c3, s1, l1, hB⟩ hb
  clear hb
  go_wp2_with fail
  refine (F1 _).mono ?_
  rintro e x ⟨rfl, rfl⟩
  go_wp2_with fail
  refine (L3 _).mono ?_
  rintro e x ⟨rfl, hb⟩
  obtain ⟨c0, c1, c2, c3, s1, l1, hB⟩ := keepSh ⟨c0, c1, c2, c3, s1, l1, hB⟩ hb
  clear hb
  go_wp2_with fail
  refine (F2 _).mono ?_
  rintro e x ⟨rfl, rfl⟩
  go_wp2_with fail
  refine (L4 _).mono ?_
  rintro e x ⟨rfl, hb⟩
  obtain ⟨c0, c1, c2, c3, s1, l1, hB⟩ := keepSh ⟨c0, c1, c2, c3, s1, l1, hB⟩ hb
  clear hb
  go_wp2_with fail
  refine (F3 _).mono ?_
  rintro e x ⟨rfl, rfl⟩
  go_wp2_with fail
  refine (L5 _).mono ?_
  rintro e x ⟨rfl, hb⟩
  obtain ⟨c0, c1, c2, c3, s1, l1, hB⟩ := keepSh ⟨c0, c1, c2, c3, s1, l1, hB⟩ hb
  clear hb
  go_wp2
  go_ret2
  exact ⟨by rw [hv.out]; rfl, hB⟩

set_option maxRecDepth 100000 in
theorem head_no (p d : Int) (wk fn fr : Bool) (h : shB p d wk fn = false) (w : World) :
    Calls Try.prog 51 #[shV p d wk fn, .bool fr] w fun e w' => e = .returned (.tuple #[.int .u64 0, .bool false]) ∧ Below w.heap.size w w' := by
  have hR := right_sh p d wk fn
  rw [h] at hR
  clear h
  go_enter Try.func51, Try.ntmps51
  go_wp2_with fail
  refine (hR _).mono ?_
  rintro e x ⟨rfl, hb⟩
  obtain ⟨c0, c1, c2, c3, s1, l1, hB⟩ := keepSh (newSh w p d wk fn 51) hb
  clear hb
  go_wp2
  go_ret2
  exact ⟨rfl, hB⟩

/-- What Head tells of any shape. -/
def headV (p d : Int) (wk fn fr : Bool) : Nat := if shB p d wk fn then headN p.toNat d.toNat wk fn fr else 0
theorem sh_small {p d : Int} {wk fn : Bool} (h : shB p d wk fn = true) : 0 ≤ p ∧ p ≤ 8 ∧ 0 ≤ d ∧ d ≤ 8 := by
  unfold shB cnt at h
  cases wk <;> simp at h <;> omega
theorem head_any (p d : Int) (wk fn fr : Bool) (w : World) :
    Calls Try.prog 51 #[shV p d wk fn, .bool fr] w fun e w' => e = .returned (.tuple #[.int .u64 (headV p d wk fn fr : Nat), .bool (shB p d wk fn)]) ∧ Below w.heap.size w w' := by
  cases h : shB p d wk fn
  · have := head_no p d wk fn fr h w
    unfold headV
    rw [h]
    exact this
  · have hs := sh_small h
    obtain ⟨p', rfl⟩ : ∃ k : Nat, p = k := ⟨p.toNat, by omega⟩
    obtain ⟨d', rfl⟩ : ∃ k : Nat, d = k := ⟨d.toNat, by omega⟩
    have := head_yes p' d' wk fn fr h (by omega) (by omega) w
    unfold headV
    rw [h]
    exact this

/-- A block that was made behind w, and is known whole. -/
structure ResAt (w x : World) (k : Nat) (cs : Array Value) (ty : TypeId) : Prop where
  blk : BlkIs x k cs ty
  own : w.heap.size ≤ k
  below : Below w.heap.size w x
theorem ResAt.new (w : World) (cs : Array Value) (ty : TypeId) : ResAt w (w.alloc (.cells cs ty)) w.heap.size cs ty := ⟨BlkIs.new w cs ty, Nat.le_refl _, (Below.refl _ _).alloc (Nat.le_refl _) _⟩
theorem ResAt.keep {w x y : World} {k : Nat} {cs : Array Value} {ty : TypeId} (h : ResAt w x k cs ty) (hb : Below x.heap.size x y) : ResAt w y k cs ty :=
  ⟨h.blk.below hb h.blk.lt, h.own, h.below.trans (hb.mono (by have := h.blk.lt; have := h.own; omega))⟩
theorem ResAt.set {w x : World} {k : Nat} {cs : Array Value} {ty : TypeId} (h : ResAt w x k cs ty) (i : Nat) (u : Value) : ResAt w (x.setCell ⟨k, i, none⟩ u) k (cs.setIfInBounds i u) ty :=
  ⟨h.blk.set i u, h.own, h.below.setCell h.own u⟩
theorem ResAt.facts4 {w x : World} {k : Nat} {v0 v1 v2 v3 : Value} {ty : TypeId} (h : ResAt w x k #[v0, v1, v2, v3] ty) :
    (x.cell? ⟨k, 0, none⟩ = some v0 ∧ x.cell? ⟨k, 1, none⟩ = some v1 ∧ x.cell? ⟨k, 2, none⟩ = some v2 ∧ x.cell? ⟨k, 3, none⟩ = some v3) ∧
    x.frozen? ⟨k, 0, none⟩ = false ∧ x.frozen? ⟨k, 1, none⟩ = false ∧ x.frozen? ⟨k, 2, none⟩ = false ∧ x.frozen? ⟨k, 3, none⟩ = false ∧ k < x.heap.size :=
  ⟨⟨h.blk.cell 0, h.blk.cell 1, h.blk.cell 2, h.blk.cell 3⟩, h.blk.free 0, h.blk.free 1, h.blk.free 2, h.blk.free 3, h.blk.lt⟩

/-- What a word says of a shape. -/
def hp (a : Nat) : Nat := a / 2 % 16
def hd (a : Nat) : Nat := a / 32 % 16
def hw (a : Nat) : Bool := (((a / 512 % 2 : Nat) : Int) == 1)
def hf (a : Nat) : Bool := (((a / 1024 % 2 : Nat) : Int) == 1)
def hr (a : Nat) : Bool := (((a / 2048 % 2 : Nat) : Int) == 1)
/-- Whether it is a Head. -/
def isHead (a : Nat) : Bool := shB (hp a) (hd a) (hw a) (hf a) && decide (headV (hp a) (hd a) (hw a) (hf a) (hr a) = a)

set_option maxRecDepth 100000 in
set_option maxHeartbeats 2000000 in
theorem shape_any (a : Nat) (ha : a < 18446744073709551616) (w : World) :
    Calls Try.prog 42 #[.int .u64 a] w fun e w' => e = .returned (if isHead a then .tuple #[shV (hp a) (hd a) (hw a) (hf a), .bool (hr a), .bool true] else .tuple #[shV 0 0 false false, .bool false, .bool false]) ∧ Below w.heap.size w w' := by
  have R1 := read_1_5 a ha
  have R2 := read_5_9 a ha
  have R3 := read_9_10 a ha
  have R4 := read_10_11 a ha
  have R5 := read_11_12 a ha
  have HD := head_any (hp a) (hd a) (hw a) (hf a) (hr a)
  have E3 : (((a / 512 % 2 : Nat) : Int) == 1) = hw a := rfl
  have E4 : (((a / 1024 % 2 : Nat) : Int) == 1) = hf a := rfl
  have E5 : (((a / 2048 % 2 : Nat) : Int) == 1) = hr a := rfl
  have eR : isHead a = (shB (hp a) (hd a) (hw a) (hf a) && decide (headV (hp a) (hd a) (hw a) (hf a) (hr a) = a)) := rfl
  rw [eR]
  rw [show a / 2 % 16 = hp a from rfl] at R1
  rw [show a / 32 % 16 = hd a from rfl] at R2
  generalize a / 512 % 2 = q3 at *
  generalize a / 1024 % 2 = q4 at *
  generalize a / 2048 % 2 = q5 at *
  generalize hp a = p at *
  generalize hd a = d at *
  generalize hw a = b3 at *
  generalize hf a = b4 at *
  generalize hr a = b5 at *
  generalize shB (p : Int) (d : Int) b3 b4 = ok at *
  generalize headV (p : Int) (d : Int) b3 b4 b5 = v at *
  clear eR
  go_enter Try.func42, Try.ntmps42
  go_wp2_with fail
  have hT := ResAt.new w #[.int .i64 0, .int .i64 0, .bool false, .bool false] 51
  refine (R1 _).mono ?_
  rintro e x ⟨rfl, hb⟩
  replace hT := hT.keep hb
  clear hb
  obtain ⟨⟨c0, c1, c2, c3⟩, f0, f1, f2, f3, l1⟩ := hT.facts4
  go_wp2_with fail
  replace hT := hT.set 0 (.int .i64 p)
  clear c0 c1 c2 c3 f0 f1 f2 f3 l1
  refine (R2 _).mono ?_
  rintro e x ⟨rfl, hb⟩
  replace hT := hT.keep hb
  clear hb
  obtain ⟨⟨c0, c1, c2, c3⟩, f0, f1, f2, f3, l1⟩ := hT.facts4
  go_wp2_with fail
  replace hT := hT.set 1 (.int .i64 d)
  clear c0 c1 c2 c3 f0 f1 f2 f3 l1
  refine (R3 _).mono ?_
  rintro e x ⟨rfl, hb⟩
  replace hT := hT.keep hb
  clear hb
  obtain ⟨⟨c0, c1, c2, c3⟩, f0, f1, f2, f3, l1⟩ := hT.facts4
  go_wp2_with fail
  replace hT := hT.set 2 (.bool b3)
  clear c0 c1 c2 c3 f0 f1 f2 f3 l1
  refine (R4 _).mono ?_
  rintro e x ⟨rfl, hb⟩
  replace hT := hT.keep hb
  clear hb
  obtain ⟨⟨c0, c1, c2, c3⟩, f0, f1, f2, f3, l1⟩ := hT.facts4
  go_wp2_with fail
  replace hT := hT.set 3 (.bool b4)
  clear c0 c1 c2 c3 f0 f1 f2 f3 l1
  refine (R5 _).mono ?_
  rintro e x ⟨rfl, hb⟩
  replace hT := hT.keep hb
  clear hb
  obtain ⟨⟨c0, c1, c2, c3⟩, f0, f1, f2, f3, l1⟩ := hT.facts4
  go_wp2_with fail
  refine (HD _).mono ?_
  rintro e x ⟨rfl, hb⟩
  replace hT := hT.keep hb
  clear hb c0 c1 c2 c3 f0 f1 f2 f3 l1 E3 E4 E5 R1 R2 R3 R4 R5 HD
  obtain ⟨⟨c0, c1, c2, c3⟩, f0, f1, f2, f3, l1⟩ := hT.facts4
  cases ok
  · go_wp2
    have hE := (((hT.set 0 (.int .i64 0)).set 1 (.int .i64 0)).set 2 (.bool false)).set 3 (.bool false)
    obtain ⟨⟨e0, e1, e2, e3⟩, _⟩ := hE.facts4
    refine bodyPost_ret (v := .tuple #[shV 0 0 false false, .bool false, .bool false]) ?_ rfl ⟨rfl, hE.below⟩
    simp [results, Try.f42, go_sem, e0, e1, e2, e3]
  · by_cases hva : v = a
    · subst hva
      go_wp2
      have hE := (((hT.set 0 (.int .i64 p)).set 1 (.int .i64 d)).set 2 (.bool b3)).set 3 (.bool b4)
      obtain ⟨⟨e0, e1, e2, e3⟩, _⟩ := hE.facts4
      refine bodyPost_ret (v := .tuple #[shV p d b3 b4, .bool b5, .bool true]) ?_ rfl ⟨by simp, hE.below⟩
      simp [results, Try.f42, go_sem, e0, e1, e2, e3]
    · have n1 : ((v : Int) = (a : Int)) = False := by simp; omega
      go_wp2
      all_goals
        have hE := (((hT.set 0 (.int .i64 0)).set 1 (.int .i64 0)).set 2 (.bool false)).set 3 (.bool false)
        obtain ⟨⟨e0, e1, e2, e3⟩, _⟩ := hE.facts4
        refine bodyPost_ret (v := .tuple #[shV 0 0 false false, .bool false, .bool false]) ?_ rfl ⟨by simp [hva], hE.below⟩
        simp [results, Try.f42, go_sem, e0, e1, e2, e3]

end Go.Proofs.Ytceedbkacbaaiaa
