/- Contracts of package word's Right, most, Mask, Get, Set at right parts. Condition: the parts are right. -/
import Derived.Test.YtceedbkacbaaiaaRows
import Derived.Test.YtceedbkacbaaiaaWordMath
import Derived.WalkKit
import Derived.ProofKit
import Derived.OpenShut
import Derived.Below
import Derived.Outline
import Derived.Deep.QuietTactic
import Derived.BigQuiet
import Derived.WalkSmall
import Derived.Deep.RegionHeld3
import Derived.Lib.Hide
namespace Go.Proofs.Ytceedbkacbaaiaa
open Go.ChangeShapes Go.WideShapes Go.ChangeAt Go.RowKit

theorem right_yes (s d : Int) (w : World) (h1 : 0 ≤ s) (h2 : 1 ≤ d) (h3 : s + d ≤ 64) :
    Calls Try.prog 85 #[.agg #[.int .i64 s, .int .i64 d]] w fun e w' => e = .returned (.bool true) ∧ Below w.heap.size w w' := by
  have a1 : s < 64 := by omega
  have a2 : d ≤ 64 := by omega
  go_enter Try.func85, Try.ntmps85
  go_wp2
  go_ret
  exact ⟨rfl, (Below.refl _ _).alloc (Nat.le_refl _) _⟩

theorem most_val (d : Int) (h2 : 1 ≤ d) (h3 : d ≤ 64) : (18446744073709551615 : Int) / 2 ^ (64 - d).toNat = ((Wd.most d.toNat : Nat) : Int) := by
  obtain ⟨k, rfl⟩ : ∃ k : Nat, d = k := ⟨d.toNat, by omega⟩
  have h4 : k ≤ 64 := by omega
  rw [Int.toNat_natCast, show ((64 : Int) - (k : Int)).toNat = 64 - k from by omega]
  have e : (18446744073709551615 : Int) = ((2 ^ 64 - 1 : Nat) : Int) := by decide
  have e2 : (2 : Int) ^ (64 - k) = ((2 ^ (64 - k) : Nat) : Int) := by simp
  rw [e, e2, ← Int.natCast_ediv]
  unfold Wd.most
  congr 1
  have h5 : 2 ^ 64 = 2 ^ k * 2 ^ (64 - k) := by rw [← Nat.pow_add]; congr 1; omega
  have hp := Nat.two_pow_pos (64 - k)
  have hk := Nat.two_pow_pos k
  rw [h5]
  generalize 2 ^ (64 - k) = q at *
  generalize 2 ^ k = r at *
  refine Nat.div_eq_of_lt_le ?_ ?_
  · have : (r - 1) * q + q = r * q := by rw [Nat.sub_mul]; have := Nat.mul_le_mul_right q hk; omega
    omega
  · rw [show r - 1 + 1 = r from by omega]
    have := Nat.mul_pos hk hp
    omega

theorem most_any (s d : Int) (w : World) (h2 : 1 ≤ d) (h3 : d ≤ 64) :
    Calls Try.prog 86 #[.agg #[.int .i64 s, .int .i64 d]] w fun e w' => e = .returned (.int .u64 ((Wd.most d.toNat : Nat) : Int)) ∧ Below w.heap.size w w' := by
  have hv := Lib.hid (most_val d h2 h3)
  go_enter Try.func86, Try.ntmps86
  go_wp2
  go_ret
  exact ⟨by rw [← hv.out]; rfl, (Below.refl _ _).alloc (Nat.le_refl _) _⟩

/-- A part that lies in a block of its own. -/
def PartAt (w : World) (b : Nat) (s d : Int) : Prop := w.cell? ⟨b, 0, none⟩ = some (.int .i64 s) ∧ w.cell? ⟨b, 1, none⟩ = some (.int .i64 d) ∧ b < w.heap.size
theorem PartAt.below {w w' : World} {b n : Nat} {s d : Int} (h : PartAt w b s d) (hb : Below n w w') (hn : b < n) : PartAt w' b s d :=
  ⟨(hb.cell (p := ⟨b, 0, none⟩) hn).trans h.1, (hb.cell (p := ⟨b, 1, none⟩) hn).trans h.2.1, Nat.lt_of_lt_of_le h.2.2 (Nat.le_trans hb.size (Nat.le_refl _))⟩

theorem keepPart {w x y : World} {b n : Nat} {s d : Int} (h : x.cell? ⟨b, 0, none⟩ = some (.int .i64 s) ∧ x.cell? ⟨b, 1, none⟩ = some (.int .i64 d) ∧ n ≤ x.heap.size ∧ b < x.heap.size ∧ Below n w x) (hb : Below x.heap.size x y) :
    y.cell? ⟨b, 0, none⟩ = some (.int .i64 s) ∧ y.cell? ⟨b, 1, none⟩ = some (.int .i64 d) ∧ n ≤ y.heap.size ∧ b < y.heap.size ∧ Below n w y :=
  ⟨(hb.cell (p := ⟨b, 0, none⟩) h.2.2.2.1).trans h.1, (hb.cell (p := ⟨b, 1, none⟩) h.2.2.2.1).trans h.2.1, Nat.le_trans h.2.2.1 hb.size, Nat.lt_of_lt_of_le h.2.2.2.1 hb.size, h.2.2.2.2.trans (hb.mono h.2.2.1)⟩
/-- The box of a part that came in, when something has been called behind it. -/
theorem box_part {w w' : World} {s d : Int} (t : TypeId) (hb : Below (w.heap.size + 1) (w.alloc (.cells #[.int .i64 s, .int .i64 d] t)) w') :
    w'.cell? ⟨w.heap.size, 0, none⟩ = some (.int .i64 s) ∧ w'.cell? ⟨w.heap.size, 1, none⟩ = some (.int .i64 d) ∧ w.heap.size ≤ w'.heap.size ∧ w.heap.size < w'.heap.size ∧ Below w.heap.size w w' := by
  have hsz : w.heap.size < w'.heap.size := by have := hb.size; simp at this; omega
  exact ⟨(hb.cell (p := ⟨w.heap.size, 0, none⟩) (by simp)).trans (by simp), (hb.cell (p := ⟨w.heap.size, 1, none⟩) (by simp)).trans (by simp), by omega, hsz, ((Below.refl w.heap.size w).alloc (Nat.le_refl _) _).trans (hb.mono (by omega))⟩

theorem mask_val (s d : Int) (h1 : 0 ≤ s) (h2 : 1 ≤ d) (h3 : s + d ≤ 64) : IntKind.u64.wrap (((Wd.most d.toNat : Nat) : Int) * 2 ^ s.toNat) = ((Wd.mask s.toNat d.toNat : Nat) : Int) := by
  have hk := Wd.mask_lt (s := s.toNat) (d := d.toNat) (by omega)
  have e2 : (2 : Int) ^ s.toNat = ((2 ^ s.toNat : Nat) : Int) := by simp
  rw [e2, ← Int.natCast_mul, IntKind.wrap_u64]
  unfold Wd.mask at *
  rw [Nat.shiftLeft_eq] at *
  omega

theorem mask_any (s d : Int) (w : World) (h1 : 0 ≤ s) (h2 : 1 ≤ d) (h3 : s + d ≤ 64) :
    Calls Try.prog 87 #[.agg #[.int .i64 s, .int .i64 d]] w fun e w' => e = .returned (.int .u64 ((Wd.mask s.toNat d.toNat : Nat) : Int)) ∧ Below w.heap.size w w' := by
  have hv := Lib.hid (mask_val s d h1 h2 h3)
  go_enter Try.func87, Try.ntmps87
  go_wp2_with (go_at_call 85; refine (right_yes _ _ _ h1 h2 h3).mono ?_; rintro e w' ⟨rfl, hb⟩)
  obtain ⟨hc0, hc1, hsz, hsz', hbw⟩ := box_part 123 (by simpa using hb)
  clear hb
  go_region_held3 (fun x => x.cell? ⟨w.heap.size, 0, none⟩ = some (.int .i64 s) ∧ x.cell? ⟨w.heap.size, 1, none⟩ = some (.int .i64 d) ∧ w.heap.size ≤ x.heap.size ∧ w.heap.size < x.heap.size ∧ Below w.heap.size w x) (first | exact ⟨hc0, hc1, hsz, hsz', hbw.drew⟩ | exact keepPart (by assumption) hb2)
    (first | (go_at_call 86; refine (most_any _ _ _ h2 (by omega)).mono ?_; rintro e w2 ⟨rfl, hb2⟩))
  go_wp2
  go_ret
  exact ⟨by rw [← hv.out]; rfl, (‹_ ∧ _ ∧ _ ∧ _ ∧ Below w.heap.size w _›).2.2.2.2⟩

theorem get_val (a s d : Int) (h0 : 0 ≤ a) (h1 : a < 18446744073709551616) (h2 : d ≤ 64) :
    bits .and .u64 (a / 2 ^ s.toNat) ((Wd.most d.toNat : Nat) : Int) = ((Wd.get a.toNat s.toNat d.toNat : Nat) : Int) := by
  have hm := Wd.most_lt d.toNat
  have hp := Wd.pow_le64 (d := d.toNat) (by omega)
  obtain ⟨k, rfl⟩ : ∃ k : Nat, a = k := ⟨a.toNat, by omega⟩
  have e2 : (2 : Int) ^ s.toNat = ((2 ^ s.toNat : Nat) : Int) := by simp
  rw [e2, ← Int.natCast_ediv]
  have hd : k / 2 ^ s.toNat ≤ k := Nat.div_le_self _ _
  rw [u64_and_nat _ _ (by omega) (by omega), Int.toNat_natCast]
  unfold Wd.get
  rw [Nat.shiftRight_eq_div_pow]
theorem set_val (a s d v : Int) (h0 : 0 ≤ a) (h1 : a < 18446744073709551616) (g0 : 0 ≤ s) (g1 : 1 ≤ d) (g2 : s + d ≤ 64) (h2 : 0 ≤ v) (h3 : v ≤ ((Wd.most d.toNat : Nat) : Int)) :
    bits .or .u64 (bits .andNot .u64 a ((Wd.mask s.toNat d.toNat : Nat) : Int)) (IntKind.u64.wrap (v * 2 ^ s.toNat)) = ((Wd.set a.toNat s.toNat d.toNat v.toNat : Nat) : Int) := by
  have hm := Wd.most_lt d.toNat
  obtain ⟨k, rfl⟩ : ∃ k : Nat, a = k := ⟨a.toNat, by omega⟩
  obtain ⟨u, rfl⟩ : ∃ u : Nat, v = u := ⟨v.toNat, by omega⟩
  obtain ⟨s', rfl⟩ : ∃ k : Nat, s = k := ⟨s.toNat, by omega⟩
  obtain ⟨d', rfl⟩ : ∃ k : Nat, d = k := ⟨d.toNat, by omega⟩
  simp only [Int.toNat_natCast] at *
  have hk := Wd.mask_lt (s := s') (d := d') (by omega)
  have e2 : (2 : Int) ^ s' = ((2 ^ s' : Nat) : Int) := by simp
  have hw : (u : Int) * 2 ^ s' < 18446744073709551616 ∧ 0 ≤ (u : Int) * 2 ^ s' := by
    rw [e2, ← Int.natCast_mul]
    have h4 : u * 2 ^ s' < 2 ^ d' * 2 ^ s' := Nat.mul_lt_mul_of_pos_right (by omega) (Nat.two_pow_pos s')
    rw [← Nat.pow_add] at h4
    have := Wd.pow_le64 (d := d' + s') (by omega)
    omega
  rw [IntKind.wrap_u64, Int.emod_eq_of_lt hw.2 hw.1, u64_andNot_nat _ _ (by omega) hk, e2, ← Int.natCast_mul]
  have h5 : k &&& (18446744073709551615 - Wd.mask s' d') ≤ k := Nat.and_le_left
  rw [u64_or_nat _ _ (by omega) (by rw [e2, ← Int.natCast_mul] at hw; omega)]
  unfold Wd.set
  rw [Nat.shiftLeft_eq]

theorem get_any (a s d : Int) (w : World) (h0 : 0 ≤ a) (h4 : a < 18446744073709551616) (h1 : 0 ≤ s) (h2 : 1 ≤ d) (h3 : s + d ≤ 64) :
    Calls Try.prog 82 #[.int .u64 a, .agg #[.int .i64 s, .int .i64 d]] w fun e w' => e = .returned (.int .u64 ((Wd.get a.toNat s.toNat d.toNat : Nat) : Int)) ∧ Below w.heap.size w w' := by
  have hv := Lib.hid (get_val a s d h0 h4 (by omega))
  go_enter Try.func82, Try.ntmps82
  go_wp2_with (go_at_call 85; refine (right_yes _ _ _ h1 h2 h3).mono ?_; rintro e w' ⟨rfl, hb⟩)
  obtain ⟨hc0, hc1, hsz, hsz', hbw⟩ := box_part 123 (by simpa using hb)
  clear hb
  go_region_held3 (fun x => x.cell? ⟨w.heap.size, 0, none⟩ = some (.int .i64 s) ∧ x.cell? ⟨w.heap.size, 1, none⟩ = some (.int .i64 d) ∧ w.heap.size ≤ x.heap.size ∧ w.heap.size < x.heap.size ∧ Below w.heap.size w x) (first | exact ⟨hc0, hc1, hsz, hsz', hbw.drew⟩ | exact keepPart (by assumption) hb2)
    (first | (go_at_call 86; refine (most_any _ _ _ h2 (by omega)).mono ?_; rintro e w2 ⟨rfl, hb2⟩))
  go_wp2
  go_ret
  exact ⟨by rw [← hv.out]; rfl, (‹_ ∧ _ ∧ _ ∧ _ ∧ Below w.heap.size w _›).2.2.2.2⟩

theorem set_yes (a s d v : Int) (w : World) (h0 : 0 ≤ a) (h4 : a < 18446744073709551616) (h1 : 0 ≤ s) (h2 : 1 ≤ d) (h3 : s + d ≤ 64) (h5 : 0 ≤ v) (h6 : v ≤ ((Wd.most d.toNat : Nat) : Int)) :
    Calls Try.prog 80 #[.int .u64 a, .agg #[.int .i64 s, .int .i64 d], .int .u64 v] w fun e w' => e = .returned (.tuple #[.int .u64 ((Wd.set a.toNat s.toNat d.toNat v.toNat : Nat) : Int), .bool true]) ∧ Below w.heap.size w w' := by
  have hv := Lib.hid (set_val a s d v h0 h4 h1 h2 h3 h5 h6)
  go_enter Try.func80, Try.ntmps80
  go_wp2_with fail
  refine (right_yes _ _ _ h1 h2 h3).mono ?_
  rintro e w' ⟨rfl, hb⟩
  obtain ⟨hc0, hc1, hsz, hsz', hbw⟩ := box_part 123 (by simpa using hb)
  clear hb
  go_wp2_with fail
  refine (most_any _ _ _ h2 (by omega)).mono ?_
  rintro e w3 ⟨rfl, hb3⟩
  obtain ⟨hc0, hc1, hsz, hsz', hbw⟩ := keepPart ⟨hc0, hc1, hsz, hsz', hbw⟩ hb3
  clear hb3
  go_wp2_with fail
  go_region_held3 (fun x => x.cell? ⟨w.heap.size, 0, none⟩ = some (.int .i64 s) ∧ x.cell? ⟨w.heap.size, 1, none⟩ = some (.int .i64 d) ∧ w.heap.size ≤ x.heap.size ∧ w.heap.size < x.heap.size ∧ Below w.heap.size w x) (first | exact ⟨hc0, hc1, hsz, hsz', hbw.drew⟩ | exact keepPart (by assumption) hb2)
    (first | (go_at_call 87; refine (mask_any _ _ _ h1 h2 h3).mono ?_; rintro e w2 ⟨rfl, hb2⟩))
  go_wp2
  go_ret2
  exact ⟨by rw [← hv.out]; rfl, (‹_ ∧ _ ∧ _ ∧ _ ∧ Below w.heap.size w _›).2.2.2.2⟩

end Go.Proofs.Ytceedbkacbaaiaa
