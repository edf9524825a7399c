/- Plain facts on sets of numbers as natural numbers (a number is in where its bit is 1): their words of 64 bits, what is put in and taken out, the rising list of what is in. No condition. -/
import Derived.Laws.BitsAllLaws
import Derived.Laws.Bits64b
import Derived.Lib.TrailingZeros
namespace Go.Proofs.YtcggjfljpoeanaaDoor.Bm

/-- Word k of a set. -/
def wordOf (m k : Nat) : Nat := (m >>> (64 * k)) % 2 ^ 64
theorem wordOf_bit (m k j : Nat) : (wordOf m k).testBit j = (decide (j < 64) && m.testBit (64 * k + j)) := by
  unfold wordOf
  rw [Nat.testBit_mod_two_pow, Nat.testBit_shiftRight]
theorem wordOf_lt (m k : Nat) : wordOf m k < 18446744073709551616 := Nat.mod_lt _ (by decide)
theorem wordOf_zero (k : Nat) : wordOf 0 k = 0 := by simp [wordOf]

def put (m i : Nat) : Nat := m ||| 2 ^ i
def out (m i : Nat) : Nat := if m.testBit i then m ^^^ 2 ^ i else m
theorem put_bit (m i j : Nat) : (put m i).testBit j = (decide (i = j) || m.testBit j) := by
  unfold put
  rw [Nat.testBit_or, Nat.testBit_two_pow, Bool.or_comm]
theorem out_bit (m i j : Nat) : (out m i).testBit j = (!decide (i = j) && m.testBit j) := by
  unfold out
  split
  · rename_i h
    rw [Nat.testBit_xor, Nat.testBit_two_pow]
    by_cases e : i = j
    · subst e; simp [h]
    · simp [e]
  · rename_i h
    by_cases e : i = j
    · subst e; simp at h; simp [h]
    · simp [e]
theorem put_in {m i : Nat} (h : m.testBit i = true) : put m i = m := by
  refine Nat.eq_of_testBit_eq fun j => ?_
  rw [put_bit]
  by_cases e : i = j
  · subst e; simp [h]
  · simp [e]
theorem out_not {m i : Nat} (h : m.testBit i = false) : out m i = m := by
  unfold out; rw [h]; rfl
theorem put_lt {m i n : Nat} (hm : m < 2 ^ n) (hi : i < n) : put m i < 2 ^ n := Nat.or_lt_two_pow hm (Nat.pow_lt_pow_right (by decide) hi)
theorem out_lt {m i n : Nat} (hm : m < 2 ^ n) : out m i < 2 ^ n := by
  unfold out
  split
  · rename_i h
    refine Nat.xor_lt_two_pow hm (Nat.pow_lt_pow_right (by decide) ?_)
    by_cases hi : i < n
    · exact hi
    · rw [Nat.testBit_lt_two_pow (Nat.lt_of_lt_of_le hm (Nat.pow_le_pow_right (by decide) (by omega)))] at h
      cases h
  · exact hm
theorem not_in {m n i : Nat} (hm : m < 2 ^ n) (hi : n ≤ i) : m.testBit i = false :=
  Nat.testBit_lt_two_pow (Nat.lt_of_lt_of_le hm (Nat.pow_le_pow_right (by decide) hi))

theorem word_put (m i : Nat) : wordOf m (i / 64) ||| 2 ^ (i % 64) = wordOf (put m i) (i / 64) := by
  refine Nat.eq_of_testBit_eq fun j => ?_
  rw [Nat.testBit_or, wordOf_bit, wordOf_bit, put_bit, Nat.testBit_two_pow]
  by_cases h : j < 64
  · by_cases e : i % 64 = j
    · have : i = 64 * (i / 64) + j := by omega
      simp [h, e, ← this]
    · have : ¬ i = 64 * (i / 64) + j := by omega
      simp [h, e, this]
  · have : ¬ i % 64 = j := by omega
    simp [h, this]
theorem word_put_other {m i k : Nat} (h : k ≠ i / 64) : wordOf (put m i) k = wordOf m k := by
  refine Nat.eq_of_testBit_eq fun j => ?_
  rw [wordOf_bit, wordOf_bit, put_bit]
  by_cases h : j < 64
  · have : ¬ i = 64 * k + j := by omega
    simp [this]
  · simp [h]
theorem word_out (m i : Nat) : wordOf m (i / 64) &&& (18446744073709551615 - 2 ^ (i % 64)) = wordOf (out m i) (i / 64) := by
  have h2 : 2 ^ (i % 64) < 2 ^ 64 := Nat.pow_lt_pow_right (by decide) (by omega)
  refine Nat.eq_of_testBit_eq fun j => ?_
  rw [Nat.testBit_and, wordOf_bit, wordOf_bit, out_bit, show 18446744073709551615 - 2 ^ (i % 64) = 2 ^ 64 - (2 ^ (i % 64) + 1) from by omega, Nat.testBit_two_pow_sub_succ h2, Nat.testBit_two_pow]
  by_cases h : j < 64
  · by_cases e : i % 64 = j
    · have : i = 64 * (i / 64) + j := by omega
      simp [h, e, ← this]
    · have : ¬ i = 64 * (i / 64) + j := by omega
      simp [h, e, this]
  · simp [h]
theorem word_out_other {m i k : Nat} (h : k ≠ i / 64) : wordOf (out m i) k = wordOf m k := by
  refine Nat.eq_of_testBit_eq fun j => ?_
  rw [wordOf_bit, wordOf_bit, out_bit]
  by_cases h : j < 64
  · have : ¬ i = 64 * k + j := by omega
    simp [this]
  · simp [h]
theorem word_has (m i : Nat) : wordOf m (i / 64) &&& 2 ^ (i % 64) = if m.testBit i then 2 ^ (i % 64) else 0 := by
  refine Nat.eq_of_testBit_eq fun j => ?_
  rw [Nat.testBit_and, wordOf_bit, Nat.testBit_two_pow]
  by_cases e : i % 64 = j
  · have h1 : 64 * (i / 64) + j = i := by omega
    have h2 : j < 64 := by omega
    rw [h1]
    cases m.testBit i <;> simp [e, h2]
  · cases m.testBit i <;> simp [e]

/-- What a place of a list of the words of m becomes. -/
theorem words_set {α : Type} (f g : Nat → α) (n k : Nat) (h : ∀ j, j ≠ k → g j = f j) : ((List.range n).map f).set k (g k) = (List.range n).map g := by
  refine List.ext_getElem (by simp) fun j h1 h2 => ?_
  rw [List.getElem_set]
  by_cases e : k = j
  · subst e; simp
  · simp [e]; exact (h j fun e' => e e'.symm).symm

/-! The lowest bit of a word -/
theorem low_form {x : Nat} (h0 : x ≠ 0) (h : x < 18446744073709551616) : ∃ m, x = 2 ^ Lib.ctz 64 x * (2 * m + 1) ∧ Lib.ctz 64 x < 64 := by
  obtain ⟨m, hm, hk⟩ := Lib.ctzFrom_spec 64 x (by omega) h
  have e : Lib.ctz 64 x = Lib.ctzFrom 64 x := by simp [Lib.ctz, h0]
  rw [e]
  exact ⟨m, hm, hk⟩
theorem low_in {x : Nat} (h0 : x ≠ 0) (h : x < 18446744073709551616) : x.testBit (Lib.ctz 64 x) = true := by
  obtain ⟨m, hm, _⟩ := low_form h0 h
  generalize Lib.ctz 64 x = k at *
  subst hm
  have := Nat.testBit_two_pow_mul_add (2 * m + 1) (i := k) (b := 0) (Nat.two_pow_pos k) k
  simp at this
  simpa using this
theorem low_below {x : Nat} (h0 : x ≠ 0) (h : x < 18446744073709551616) (j : Nat) (hj : j < Lib.ctz 64 x) : x.testBit j = false := by
  obtain ⟨m, hm, _⟩ := low_form h0 h
  generalize Lib.ctz 64 x = k at *
  subst hm
  have := Nat.testBit_two_pow_mul_add (2 * m + 1) (i := k) (b := 0) (Nat.two_pow_pos k) j
  rw [if_pos hj] at this
  simpa using this
theorem low_off {x : Nat} (h0 : x ≠ 0) (h : x < 18446744073709551616) (j : Nat) : (x &&& (x - 1)).testBit j = (x.testBit j && !decide (j = Lib.ctz 64 x)) := by
  obtain ⟨m, hm, _⟩ := low_form h0 h
  generalize Lib.ctz 64 x = k at *
  have p := Nat.two_pow_pos k
  have e1 : x = 2 ^ k * (2 * m + 1) + 0 := by omega
  have e2 : x - 1 = 2 ^ k * (2 * m) + (2 ^ k - 1) := by
    rw [hm, Nat.mul_add]; omega
  rw [Nat.testBit_and, e2, Nat.testBit_two_pow_mul_add _ (by omega)]
  rw [e1, Nat.testBit_two_pow_mul_add _ p]
  by_cases hj : j < k
  · simp [hj]
  · rw [if_neg hj, if_neg hj]
    by_cases e : j = k
    · subst e; simp [Nat.testBit_zero]
    · obtain ⟨d, hd⟩ : ∃ d, j - k = d + 1 := ⟨j - k - 1, by omega⟩
      have h1 : (2 * m + 1) / 2 = m := by omega
      have h2 : (2 * m) / 2 = m := by omega
      rw [hd, Nat.testBit_succ, Nat.testBit_succ, h1, h2]
      simp [e]
theorem low_lt {x : Nat} (h0 : x ≠ 0) : x &&& (x - 1) < x := Nat.lt_of_le_of_lt Nat.and_le_right (by omega)

/-- Those of a word that stand at k or above. -/
theorem upper_bit {x k : Nat} (h : x < 18446744073709551616) (hk : k < 64) (j : Nat) : (x &&& (18446744073709551615 - (2 ^ k - 1))).testBit j = (decide (k ≤ j) && x.testBit j) := by
  have p := Nat.two_pow_pos k
  have h2 : 2 ^ k < 2 ^ 64 := Nat.pow_lt_pow_right (by decide) hk
  rw [Nat.testBit_and, show 18446744073709551615 - (2 ^ k - 1) = 2 ^ 64 - ((2 ^ k - 1) + 1) from by omega, Nat.testBit_two_pow_sub_succ (by omega), Nat.testBit_two_pow_sub_one]
  by_cases hj : j < 64
  · by_cases e : k ≤ j
    · have : ¬ j < k := by omega
      simp [hj, e, this]
    · have : j < k := by omega
      simp [e, this]
  · rw [Nat.testBit_lt_two_pow (Nat.lt_of_lt_of_le h (by rw [show (18446744073709551616 : Nat) = 2 ^ 64 from rfl]; exact Nat.pow_le_pow_right (by decide) (by omega)))]
    simp

/-! The rising list of what is in, from a on, below n -/
def els (m a n : Nat) : List Nat := (List.range n).filter fun j => decide (a ≤ j) && m.testBit j
theorem mem_els {m a n x : Nat} : x ∈ els m a n ↔ x < n ∧ a ≤ x ∧ m.testBit x = true := by simp [els]
theorem els_zero (m a : Nat) : els m a 0 = [] := rfl
theorem els_succ (m a n : Nat) : els m a (n + 1) = els m a n ++ (if a ≤ n ∧ m.testBit n = true then [n] else []) := by
  unfold els
  rw [List.range_succ, List.filter_append]
  congr 1
  by_cases h1 : a ≤ n
  · cases h2 : m.testBit n <;> simp [h1, h2]
  · simp [h1]
theorem els_skip {m a c : Nat} : ∀ {d : Nat}, c ≤ d → (∀ j, c ≤ j → j < d → a ≤ j → m.testBit j = false) → els m a d = els m a c := by
  intro d hcd
  induction d with
  | zero => intro _; rw [show c = 0 from by omega]
  | succ d ih =>
    intro h
    by_cases e : c = d + 1
    · rw [e]
    · rw [els_succ, ih (by omega) (fun j h1 h2 h3 => h j h1 (by omega) h3), if_neg ?_, List.append_nil]
      rintro ⟨h1, h2⟩
      rw [h d (by omega) (by omega) h1] at h2
      cases h2
theorem els_next {m a c x : Nat} (hc : c ≤ x) (ha : a ≤ x) (hx : m.testBit x = true) (h : ∀ j, c ≤ j → j < x → a ≤ j → m.testBit j = false) : els m a (x + 1) = els m a c ++ [x] := by
  rw [els_succ, els_skip hc h, if_pos ⟨ha, hx⟩]
theorem els_more {m a c : Nat} : ∀ {d : Nat}, c ≤ d → ∃ r, els m a d = els m a c ++ r ∧ ∀ x ∈ r, c ≤ x := by
  intro d hcd
  induction d with
  | zero => exact ⟨[], by rw [show c = 0 from by omega]; simp, by simp⟩
  | succ d ih =>
    by_cases e : c = d + 1
    · exact ⟨[], by rw [e]; simp, by simp⟩
    · obtain ⟨r, hr, hr2⟩ := ih (by omega)
      refine ⟨r ++ (if a ≤ d ∧ m.testBit d = true then [d] else []), by rw [els_succ, hr, List.append_assoc], fun x hx => ?_⟩
      rcases List.mem_append.1 hx with h | h
      · exact hr2 x h
      · split at h
        · simp at h; omega
        · simp at h
theorem els_none {m a n : Nat} (h : n ≤ a) : els m a n = [] := by
  rw [els_skip (c := 0) (Nat.zero_le _) (fun j _ h2 h3 => by omega), els_zero]
theorem els_all {m a n b : Nat} (hm : m < 2 ^ b) (h : b ≤ n) : els m a n = els m a b := els_skip h fun _ h1 _ _ => not_in hm h1

/-- How many there are in it from a on, below c. -/
def cnt (m a c : Nat) : Nat := (els m a c).length
theorem cnt_zero (m a : Nat) : cnt m a 0 = 0 := rfl
theorem cnt_none {m a c : Nat} (h : c ≤ a) : cnt m a c = 0 := by unfold cnt; rw [els_none h]; rfl
theorem cnt_succ (m a n : Nat) : cnt m a (n + 1) = cnt m a n + (if a ≤ n ∧ m.testBit n = true then 1 else 0) := by
  unfold cnt
  rw [els_succ, List.length_append]
  split <;> rfl
theorem cnt_all {m a n b : Nat} (hm : m < 2 ^ b) (h : b ≤ n) : cnt m a n = cnt m a b := by unfold cnt; rw [els_all hm h]
theorem cnt_mono (m a : Nat) {c d : Nat} (h : c ≤ d) : cnt m a c ≤ cnt m a d := by
  obtain ⟨r, hr, _⟩ := els_more (m := m) (a := a) h
  unfold cnt
  rw [hr, List.length_append]
  omega
theorem cnt_le (m a c : Nat) : cnt m a c ≤ c := by
  induction c with
  | zero => exact Nat.le_refl _
  | succ c ih => rw [cnt_succ]; split <;> omega
theorem cnt_adds (m : Nat) {a b : Nat} (hab : a ≤ b) : ∀ {c : Nat}, b ≤ c → cnt m a b + cnt m b c = cnt m a c := by
  intro c
  induction c with
  | zero => intro h; rw [show b = 0 from by omega, cnt_zero, cnt_zero]
  | succ c ih =>
    intro h
    by_cases e : b = c + 1
    · rw [← e, cnt_none (m := m) (Nat.le_refl b), Nat.add_zero]
    · have := ih (by omega)
      rw [cnt_succ, cnt_succ, ← this]
      have h1 : a ≤ c := by omega
      have h2 : b ≤ c := by omega
      simp only [h1, h2, true_and]
      omega
/-- One put in: one more, if it stands in the stretch. -/
theorem cnt_put {m x : Nat} (hx : m.testBit x = false) (a : Nat) : ∀ c, cnt (put m x) a c = cnt m a c + (if a ≤ x ∧ x < c then 1 else 0) := by
  intro c
  induction c with
  | zero => simp [cnt_zero]
  | succ c ih =>
    rw [cnt_succ, cnt_succ, ih, put_bit]
    by_cases e : x = c
    · subst e
      by_cases h : a ≤ x <;> simp [h, hx]
    · have e2 : (a ≤ x ∧ x < c + 1) ↔ (a ≤ x ∧ x < c) := by omega
      simp only [e, decide_false, Bool.false_or, e2]
      omega

end Go.Proofs.YtcggjfljpoeanaaDoor.Bm
