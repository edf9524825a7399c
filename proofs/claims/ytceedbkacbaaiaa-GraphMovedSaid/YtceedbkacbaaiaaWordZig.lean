/- Contracts of package word's Zig and Zag. No condition. -/
import Derived.Test.YtceedbkacbaaiaaWordPart
namespace Go.Proofs.Ytceedbkacbaaiaa
open Go.ChangeShapes Go.WideShapes Go.ChangeAt Go.RowKit

/-- The number that is not below 0. -/
def zigOf (n : Int) : Int := if 0 ≤ n then 2 * n else -2 * n - 1
theorem zig_val (n : Int) (h0 : -9223372036854775808 ≤ n) (h1 : n ≤ 9223372036854775807) :
    bits .xor .u64 (IntKind.u64.wrap (IntKind.u64.wrap n * 2)) (IntKind.u64.wrap (n / 9223372036854775808)) = zigOf n := by
  simp only [IntKind.wrap_u64]
  unfold zigOf
  by_cases h : 0 ≤ n
  · rw [if_pos h, show n / 9223372036854775808 = 0 from by omega, show (n % 18446744073709551616 * 2) % 18446744073709551616 = 2 * n from by omega]
    obtain ⟨k, rfl⟩ : ∃ k : Nat, n = k := ⟨n.toNat, by omega⟩
    have := bits_xor_u64_nat (2 * k) 0 (by omega) (by omega)
    simpa using this
  · rw [if_neg h, show n / 9223372036854775808 = -1 from by omega, show ((-1 : Int) % 18446744073709551616) = ((2 ^ 64 - 1 : Nat) : Int) from by decide]
    obtain ⟨k, hk⟩ : ∃ k : Nat, (n % 18446744073709551616 * 2) % 18446744073709551616 = k := ⟨((n % 18446744073709551616 * 2) % 18446744073709551616).toNat, by omega⟩
    have hk2 : k < 2 ^ 64 := by omega
    rw [hk, bits_xor_u64_nat k (2 ^ 64 - 1) (by omega) (by omega)]
    have : k ^^^ (2 ^ 64 - 1) = 2 ^ 64 - 1 - k := by
      refine Nat.eq_of_testBit_eq fun i => ?_
      rw [Nat.testBit_xor, Nat.testBit_two_pow_sub_one, show 2 ^ 64 - 1 - k = 2 ^ 64 - (k + 1) from by omega, Nat.testBit_two_pow_sub_succ hk2]
      by_cases hi : i < 64
      · simp [hi]
      · rw [Wd.testBit_out (by omega) (by omega)]; simp [hi]
    rw [this]
    omega
theorem zig_any (n : Int) (w : World) (h0 : -9223372036854775808 ≤ n) (h1 : n ≤ 9223372036854775807) :
    Calls Try.prog 59 #[.int .i64 n] w fun e w' => e = .returned (.int .u64 (zigOf n)) ∧ w = w' := by
  have hv := Lib.hid (zig_val n h0 h1)
  go_enter Try.func59, Try.ntmps59
  go_wp2
  go_ret
  exact ⟨by rw [← hv.out]; rfl, rfl⟩
def zagOf (a : Int) : Int := if a % 2 = 0 then a / 2 else -(a / 2) - 1
theorem zag_val (a : Int) (h0 : 0 ≤ a) (h1 : a ≤ 18446744073709551615) :
    bits .xor .i64 (a / 2) (wrap64 (-wrap64 (bits .and .u64 a 1))) = zagOf a := by
  obtain ⟨k, rfl⟩ : ∃ k : Nat, a = k := ⟨a.toNat, by omega⟩
  have e1 : bits .and .u64 (k : Int) 1 = ((k % 2 : Nat) : Int) := by
    have := u64_and_nat k 1 (by omega) (by omega)
    rw [Nat.and_one_is_mod] at this
    exact this
  rw [e1]
  unfold zagOf
  obtain ⟨q, hq⟩ : ∃ q : Nat, (k : Int) / 2 = q := ⟨k / 2, by omega⟩
  by_cases h : (k : Int) % 2 = 0
  · rw [if_pos h, show k % 2 = 0 from by omega, hq, show wrap64 (-wrap64 ((0 : Nat) : Int)) = 0 from by (simp only [wrap64]; decide)]
    have : bits .xor .i64 (q : Int) 0 = (q : Int) := by
      show IntKind.i64.wrap ((BitVec.ofInt 64 (q : Int) ^^^ BitVec.ofInt 64 0).toNat : Int) = _
      rw [show BitVec.ofInt 64 0 = 0#64 from by decide, BitVec.xor_zero, BitVec.ofInt_natCast, BitVec.toNat_ofNat, IntKind.wrap_i64]
      omega
    exact this
  · rw [if_neg h, show k % 2 = 1 from by omega, hq, show wrap64 (-wrap64 ((1 : Nat) : Int)) = -1 from by (simp only [wrap64]; decide)]
    have : bits .xor .i64 (q : Int) (-1) = -(q : Int) - 1 := by
      show IntKind.i64.wrap ((BitVec.ofInt 64 (q : Int) ^^^ BitVec.ofInt 64 (-1)).toNat : Int) = _
      rw [show BitVec.ofInt 64 (-1) = BitVec.allOnes 64 from by decide, BitVec.xor_allOnes, BitVec.ofInt_natCast, BitVec.toNat_not, BitVec.toNat_ofNat, IntKind.wrap_i64]
      omega
    exact this
theorem zag_any (a : Int) (w : World) (h0 : 0 ≤ a) (h1 : a ≤ 18446744073709551615) :
    Calls Try.prog 79 #[.int .u64 a] w fun e w' => e = .returned (.int .i64 (zagOf a)) ∧ w = w' := by
  have hv := Lib.hid (zag_val a h0 h1)
  go_enter Try.func79, Try.ntmps79
  go_wp2
  go_ret
  exact ⟨by rw [← hv.out]; rfl, rfl⟩

end Go.Proofs.Ytceedbkacbaaiaa
