/- Plain facts on words of 64 bits as natural numbers: parts are got, set, packed and unpacked as bits are. No condition. -/
import Derived.Laws.BitsAllLaws
import Derived.IntWalk
namespace Go.Proofs.Ytceedbkacbaaiaa.Wd

/-- The greatest number that a part of d bits holds. -/
def most (d : Nat) : Nat := 2 ^ d - 1
def mask (s d : Nat) : Nat := most d <<< s
def get (w s d : Nat) : Nat := (w >>> s) &&& most d
def set (w s d v : Nat) : Nat := (w &&& (18446744073709551615 - mask s d)) ||| (v <<< s)

theorem testBit_most (d i : Nat) : (most d).testBit i = decide (i < d) := by
  unfold most; exact Nat.testBit_two_pow_sub_one d i
theorem testBit_mask (s d i : Nat) : (mask s d).testBit i = decide (s ≤ i ∧ i < s + d) := by
  unfold mask
  rw [Nat.testBit_shiftLeft, testBit_most]
  by_cases h : s ≤ i
  · simp [h]; omega
  · simp [h]
theorem testBit_get (w s d i : Nat) : (get w s d).testBit i = (w.testBit (s + i) && decide (i < d)) := by
  unfold get
  rw [Nat.testBit_and, Nat.testBit_shiftRight, testBit_most]
theorem most_lt (d : Nat) : most d < 2 ^ d := by
  unfold most; have := Nat.two_pow_pos d; omega
theorem pow_le64 {d : Nat} (h : d ≤ 64) : 2 ^ d ≤ 18446744073709551616 := by
  have := Nat.pow_le_pow_right (n := 2) (by omega) h
  simpa using this
theorem mask_lt {s d : Nat} (h : s + d ≤ 64) : mask s d < 18446744073709551616 := by
  unfold mask
  rw [Nat.shiftLeft_eq]
  have h1 : most d * 2 ^ s < 2 ^ d * 2 ^ s := Nat.mul_lt_mul_of_pos_right (most_lt d) (Nat.two_pow_pos s)
  rw [← Nat.pow_add] at h1
  have := pow_le64 (d := d + s) (by omega)
  omega
theorem testBit_out {w i : Nat} (hw : w < 18446744073709551616) (hi : 64 ≤ i) : w.testBit i = false :=
  Nat.testBit_lt_two_pow (Nat.lt_of_lt_of_le hw (by have := Nat.pow_le_pow_right (n := 2) (by omega) hi; simpa using this))
theorem testBit_not {m i : Nat} (hm : m < 18446744073709551616) : (18446744073709551615 - m).testBit i = (decide (i < 64) && !m.testBit i) := by
  have e : (2 : Nat) ^ 64 = 18446744073709551616 := by decide
  have h : 18446744073709551615 - m = 2 ^ 64 - (m + 1) := by omega
  rw [h, Nat.testBit_two_pow_sub_succ (by omega)]
theorem testBit_set {w s d v : Nat} (i : Nat) (hw : w < 18446744073709551616) (h : s + d ≤ 64) (hv : v < 2 ^ d) :
    (set w s d v).testBit i = if s ≤ i ∧ i < s + d then v.testBit (i - s) else w.testBit i := by
  unfold set
  rw [Nat.testBit_or, Nat.testBit_and, testBit_not (mask_lt h), testBit_mask, Nat.testBit_shiftLeft]
  by_cases h1 : s ≤ i ∧ i < s + d
  · simp [h1]
  · rw [if_neg h1]
    have h2 : (decide (i ≥ s) && v.testBit (i - s)) = false := by
      by_cases h3 : s ≤ i
      · have : v.testBit (i - s) = false := Nat.testBit_lt_two_pow (Nat.lt_of_lt_of_le hv (Nat.pow_le_pow_right (by omega) (by omega)))
        simp [this]
      · simp [h3]
    rw [h2]
    by_cases h4 : i < 64
    · simp [h1, h4]
    · rw [testBit_out hw (by omega)]; simp
theorem lt_of_bits {x : Nat} (h : ∀ i, 64 ≤ i → x.testBit i = false) : x < 18446744073709551616 := by
  have := Nat.lt_pow_two_of_testBit (n := 64) x h
  simpa using this
theorem set_lt {w s d v : Nat} (hw : w < 18446744073709551616) (h : s + d ≤ 64) (hv : v < 2 ^ d) : set w s d v < 18446744073709551616 :=
  lt_of_bits fun i hi => by rw [testBit_set i hw h hv, if_neg (by omega)]; exact testBit_out hw hi
theorem get_lt (w s d : Nat) : get w s d < 2 ^ d := Nat.lt_pow_two_of_testBit _ fun i hi => by rw [testBit_get]; simp; omega
theorem get_set {w s d v : Nat} (hw : w < 18446744073709551616) (h : s + d ≤ 64) (hv : v < 2 ^ d) : get (set w s d v) s d = v :=
  Nat.eq_of_testBit_eq fun i => by
    rw [testBit_get, testBit_set _ hw h hv]
    by_cases hi : i < d
    · simp [hi]
    · have : v.testBit i = false := Nat.testBit_lt_two_pow (Nat.lt_of_lt_of_le hv (Nat.pow_le_pow_right (by omega) (by omega)))
      simp [hi, this]
theorem get_set_other {w s d v s' d' : Nat} (hw : w < 18446744073709551616) (h : s + d ≤ 64) (hv : v < 2 ^ d) (ha : s + d ≤ s' ∨ s' + d' ≤ s) : get (set w s d v) s' d' = get w s' d' :=
  Nat.eq_of_testBit_eq fun i => by
    rw [testBit_get, testBit_get, testBit_set _ hw h hv]
    by_cases hi : i < d'
    · rw [if_neg (by omega)]
    · simp [hi]
theorem set_back {w s d v : Nat} (hw : w < 18446744073709551616) (h : s + d ≤ 64) (hv : v < 2 ^ d) : set (set w s d v) s d (get w s d) = w :=
  Nat.eq_of_testBit_eq fun i => by
    rw [testBit_set _ (set_lt hw h hv) h (get_lt w s d), testBit_set _ hw h hv, testBit_get]
    by_cases hi : s ≤ i ∧ i < s + d
    · rw [if_pos hi, show s + (i - s) = i from by omega]; simp; omega
    · rw [if_neg hi, if_neg hi]
theorem mask_apart {s d s' d' : Nat} (hd : 1 ≤ d) (hd' : 1 ≤ d') : (mask s d &&& mask s' d' = 0) ↔ (s + d ≤ s' ∨ s' + d' ≤ s) := by
  constructor
  · intro h
    by_cases hc : s + d ≤ s' ∨ s' + d' ≤ s
    · exact hc
    · exfalso
      have h1 := congrArg (fun x => x.testBit (max s s')) h
      simp only [Nat.testBit_and, testBit_mask, Nat.zero_testBit] at h1
      simp only [Bool.and_eq_false_iff, decide_eq_false_iff_not] at h1
      omega
  · intro h
    refine Nat.eq_of_testBit_eq fun i => ?_
    simp only [Nat.testBit_and, testBit_mask, Nat.zero_testBit, Bool.and_eq_false_iff, decide_eq_false_iff_not]
    omega
theorem mask_join {s a b : Nat} : mask s a ||| mask (s + a) b = mask s (a + b) :=
  Nat.eq_of_testBit_eq fun i => by
    rw [Nat.testBit_or, testBit_mask, testBit_mask, testBit_mask, Bool.eq_iff_iff]
    simp only [Bool.or_eq_true, decide_eq_true_eq]
    omega
theorem mask_pos {s d : Nat} (hd : 1 ≤ d) : 0 < mask s d := by
  rcases Nat.eq_zero_or_pos (mask s d) with h | h
  · have h1 := congrArg (fun x => x.testBit s) h
    simp only [testBit_mask, Nat.zero_testBit, decide_eq_false_iff_not] at h1
    omega
  · exact h
/-- A number with nothing above its part's most, and what stands there of it. -/
theorem and_most_le (v d : Nat) : v &&& most d < 2 ^ d := Nat.lt_of_le_of_lt Nat.and_le_right (most_lt d)
theorem mask_shift (s d : Nat) : mask s d >>> s = most d := by
  unfold mask; exact Nat.shiftLeft_shiftRight _ _

/-! ### Packing -/
/-- How far from the lowest bit the part of number k stands. -/
def sh (ds : List Nat) (k : Nat) : Nat := (ds.take k).sum
theorem sh_zero (ds : List Nat) : sh ds 0 = 0 := by simp [sh]
theorem sh_succ (ds : List Nat) (k : Nat) : sh ds (k + 1) = sh ds k + ds.getD k 0 := by
  unfold sh
  rw [List.take_add_one, List.sum_append]
  cases h : ds[k]? <;> simp [List.getD, h]
theorem sh_all (ds : List Nat) : sh ds ds.length = ds.sum := by simp [sh]
theorem sh_mono (ds : List Nat) {j k : Nat} (h : j ≤ k) : sh ds j ≤ sh ds k := by
  induction k with
  | zero => obtain rfl : j = 0 := by omega
            exact Nat.le_refl _
  | succ k ih =>
    by_cases e : j = k + 1
    · subst e; exact Nat.le_refl _
    · rw [sh_succ]; have := ih (by omega); omega
theorem sh_next (ds : List Nat) {j k : Nat} (h : j < k) : sh ds j + ds.getD j 0 ≤ sh ds k := by
  rw [← sh_succ]; exact sh_mono ds h
theorem sh_le (ds : List Nat) (k : Nat) : sh ds k ≤ ds.sum := by
  by_cases h : k ≤ ds.length
  · rw [← sh_all]; exact sh_mono ds h
  · unfold sh; rw [List.take_of_length_le (by omega)]; exact Nat.le_refl _
theorem sh_in (ds : List Nat) (k : Nat) : sh ds k + ds.getD k 0 ≤ ds.sum := by rw [← sh_succ]; exact sh_le ds _

/-- The word behind the numbers whose places are listed. -/
def acc (ds vs : List Nat) (l : List Nat) : Nat := l.foldl (fun w k => set w (sh ds k) (ds.getD k 0) (vs.getD k 0)) 0
theorem acc_snoc (ds vs l : List Nat) (k : Nat) : acc ds vs (l ++ [k]) = set (acc ds vs l) (sh ds k) (ds.getD k 0) (vs.getD k 0) := by simp [acc]
theorem acc_lt (ds vs l : List Nat) (hs : ds.sum ≤ 64) (hv : ∀ k, vs.getD k 0 < 2 ^ ds.getD k 0) : acc ds vs l < 18446744073709551616 := by
  unfold acc
  have key : ∀ (l : List Nat) (w : Nat), w < 18446744073709551616 → l.foldl (fun w k => set w (sh ds k) (ds.getD k 0) (vs.getD k 0)) w < 18446744073709551616 := by
    intro l
    induction l with
    | nil => intro w h; exact h
    | cons k r ih => intro w h; exact ih _ (set_lt h (by have := sh_in ds k; omega) (hv k))
  exact key l 0 (by decide)
theorem acc_bits (ds vs : List Nat) (hs : ds.sum ≤ 64) (hv : ∀ k, vs.getD k 0 < 2 ^ ds.getD k 0) (m i : Nat) :
    (acc ds vs (List.range m)).testBit i = (List.range m).any (fun j => decide (sh ds j ≤ i ∧ i < sh ds j + ds.getD j 0) && (vs.getD j 0).testBit (i - sh ds j)) := by
  induction m with
  | zero => simp [acc]
  | succ m ih =>
    rw [List.range_succ, acc_snoc, testBit_set i (acc_lt ds vs _ hs hv) (by have := sh_in ds m; omega) (hv m), List.any_append, ih]
    by_cases h : sh ds m ≤ i ∧ i < sh ds m + ds.getD m 0
    · rw [if_pos h]
      have h0 : (List.range m).any (fun j => decide (sh ds j ≤ i ∧ i < sh ds j + ds.getD j 0) && (vs.getD j 0).testBit (i - sh ds j)) = false := by
        rw [List.any_eq_false]
        intro j hj
        have := sh_next ds (List.mem_range.1 hj)
        simp only [Bool.and_eq_true, decide_eq_true_eq, not_and]
        omega
      rw [h0]; simp only [List.any_cons, List.any_nil, Bool.or_false, Bool.false_or, decide_eq_true h, Bool.true_and]
    · rw [if_neg h]; simp only [List.any_cons, List.any_nil, Bool.or_false, decide_eq_false h, Bool.false_and]
theorem get_acc (ds vs : List Nat) (hs : ds.sum ≤ 64) (hv : ∀ k, vs.getD k 0 < 2 ^ ds.getD k 0) {m j : Nat} (hj : j < m) :
    get (acc ds vs (List.range m)) (sh ds j) (ds.getD j 0) = vs.getD j 0 := by
  induction m with
  | zero => omega
  | succ m ih =>
    rw [List.range_succ, acc_snoc]
    have hm := sh_in ds m
    by_cases e : j = m
    · subst e; exact get_set (acc_lt ds vs _ hs hv) (by omega) (hv j)
    · rw [get_set_other (acc_lt ds vs _ hs hv) (by omega) (hv m) (.inr (sh_next ds (by omega)))]
      exact ih (by omega)
/-- What is left of a word when the parts whose places are listed are taken out. -/
def rest (ds : List Nat) (w : Nat) (l : List Nat) : Nat := l.foldl (fun w k => w &&& (18446744073709551615 - mask (sh ds k) (ds.getD k 0))) w
theorem rest_snoc (ds : List Nat) (w : Nat) (l : List Nat) (k : Nat) : rest ds w (l ++ [k]) = rest ds w l &&& (18446744073709551615 - mask (sh ds k) (ds.getD k 0)) := by simp [rest]
theorem rest_lt (ds : List Nat) (w : Nat) (l : List Nat) (hw : w < 18446744073709551616) : rest ds w l < 18446744073709551616 := by
  unfold rest
  induction l generalizing w with
  | nil => exact hw
  | cons k r ih => exact ih _ (Nat.lt_of_le_of_lt Nat.and_le_left hw)
theorem rest_bits (ds : List Nat) (w : Nat) (hw : w < 18446744073709551616) (hs : ds.sum ≤ 64) (m i : Nat) : (rest ds w (List.range m)).testBit i = (decide (sh ds m ≤ i) && w.testBit i) := by
  induction m with
  | zero => simp [rest, sh_zero]
  | succ m ih =>
    have hm := sh_in ds m
    rw [List.range_succ, rest_snoc, Nat.testBit_and, ih, testBit_not (mask_lt (by omega)), testBit_mask, sh_succ]
    by_cases hi : i < 64
    · rw [Bool.eq_iff_iff]
      simp only [hi, decide_true, Bool.true_and, Bool.and_eq_true, decide_eq_true_eq, Bool.not_eq_true', decide_eq_false_iff_not]
      constructor
      · rintro ⟨⟨h1, h2⟩, h3⟩; exact ⟨by omega, h2⟩
      · rintro ⟨h1, h2⟩; exact ⟨⟨by omega, h2⟩, by omega⟩
    · simp [testBit_out hw (Nat.le_of_not_lt hi)]
theorem rest_zero (ds : List Nat) (w : Nat) (hw : w < 18446744073709551616) (hs : ds.sum ≤ 64) : rest ds w (List.range ds.length) = 0 ↔ w < 2 ^ ds.sum := by
  constructor
  · intro h
    refine Nat.lt_pow_two_of_testBit _ fun i hi => ?_
    have h1 := congrArg (fun x => x.testBit i) h
    simp only [rest_bits ds w hw hs, Nat.zero_testBit, sh_all] at h1
    simpa [show ds.sum ≤ i from hi] using h1
  · intro h
    refine Nat.eq_of_testBit_eq fun i => ?_
    rw [rest_bits ds w hw hs, sh_all, Nat.zero_testBit]
    by_cases hi : ds.sum ≤ i
    · rw [Nat.testBit_lt_two_pow (Nat.lt_of_lt_of_le h (Nat.pow_le_pow_right (by omega) hi))]; simp
    · simp [hi]
/-- The numbers of a word. -/
def nums (ds : List Nat) (w : Nat) (l : List Nat) : List Nat := l.map fun k => get w (sh ds k) (ds.getD k 0)
theorem nums_snoc (ds : List Nat) (w : Nat) (l : List Nat) (k : Nat) : nums ds w (l ++ [k]) = nums ds w l ++ [get w (sh ds k) (ds.getD k 0)] := by simp [nums]
theorem nums_length (ds : List Nat) (w : Nat) (l : List Nat) : (nums ds w l).length = l.length := by simp [nums]
theorem nums_getD (ds : List Nat) (w n k : Nat) (h : k < n) : (nums ds w (List.range n)).getD k 0 = get w (sh ds k) (ds.getD k 0) := by simp [nums, List.getD, h]
theorem nums_acc (ds vs : List Nat) (hs : ds.sum ≤ 64) (hv : ∀ k, vs.getD k 0 < 2 ^ ds.getD k 0) (hl : vs.length = ds.length) :
    nums ds (acc ds vs (List.range ds.length)) (List.range ds.length) = vs := by
  refine List.ext_getElem (by simp [nums, hl]) fun k h1 h2 => ?_
  simp only [nums, List.getElem_map, List.getElem_range]
  rw [get_acc ds vs hs hv (by omega)]
  simp [List.getD, h2]
theorem acc_fits (ds vs : List Nat) (hs : ds.sum ≤ 64) (hv : ∀ k, vs.getD k 0 < 2 ^ ds.getD k 0) : acc ds vs (List.range ds.length) < 2 ^ ds.sum :=
  Nat.lt_pow_two_of_testBit _ fun i hi => by
    rw [acc_bits ds vs hs hv, List.any_eq_false]
    intro j hj
    have := sh_in ds j
    simp only [Bool.and_eq_true, decide_eq_true_eq, not_and]
    omega
theorem in_part (ds : List Nat) {i : Nat} (h : i < ds.sum) : ∃ j, j < ds.length ∧ sh ds j ≤ i ∧ i < sh ds j + ds.getD j 0 := by
  have key : ∀ m, i < sh ds m → ∃ j, j < m ∧ sh ds j ≤ i ∧ i < sh ds j + ds.getD j 0 := by
    intro m
    induction m with
    | zero => intro h; rw [sh_zero] at h; omega
    | succ m ih =>
      intro h
      by_cases hm : i < sh ds m
      · obtain ⟨j, h1, h2⟩ := ih hm; exact ⟨j, by omega, h2⟩
      · exact ⟨m, by omega, by omega, by rw [sh_succ] at h; exact h⟩
  exact key _ (by rw [sh_all]; exact h)
theorem acc_nums (ds : List Nat) (w : Nat) (hs : ds.sum ≤ 64) (hw : w < 2 ^ ds.sum) : acc ds (nums ds w (List.range ds.length)) (List.range ds.length) = w := by
  have hv : ∀ k, (nums ds w (List.range ds.length)).getD k 0 < 2 ^ ds.getD k 0 := by
    intro k
    by_cases h : k < ds.length
    · rw [nums_getD _ _ _ _ h]; exact get_lt _ _ _
    · rw [List.getD, List.getElem?_eq_none (by simp [nums]; omega)]; exact Nat.two_pow_pos _
  refine Nat.eq_of_testBit_eq fun i => ?_
  rw [acc_bits ds _ hs hv, Bool.eq_iff_iff, List.any_eq_true]
  constructor
  · rintro ⟨j, hj, h⟩
    have hj' := List.mem_range.1 hj
    rw [nums_getD _ _ _ _ hj', testBit_get] at h
    simp only [Bool.and_eq_true, decide_eq_true_eq] at h
    rw [show sh ds j + (i - sh ds j) = i from by omega] at h
    exact h.2.1
  · intro h
    have hi : i < ds.sum := by
      by_cases h1 : i < ds.sum
      · exact h1
      · rw [Nat.testBit_lt_two_pow (Nat.lt_of_lt_of_le hw (Nat.pow_le_pow_right (by omega) (by omega)))] at h; simp at h
    obtain ⟨j, h1, h2, h3⟩ := in_part ds hi
    refine ⟨j, List.mem_range.2 h1, ?_⟩
    rw [nums_getD _ _ _ _ h1, testBit_get]
    simp only [Bool.and_eq_true, decide_eq_true_eq]
    rw [show sh ds j + (i - sh ds j) = i from by omega]
    exact ⟨⟨h2, h3⟩, h, by omega⟩
/-- One number alone, all others 0, stands where its part is. -/
theorem acc_alone (ds vs : List Nat) (hs : ds.sum ≤ 64) (hv : ∀ k, vs.getD k 0 < 2 ^ ds.getD k 0) (k : Nat) (hk : k < ds.length) (h0 : ∀ j, j ≠ k → vs.getD j 0 = 0) :
    acc ds vs (List.range ds.length) = vs.getD k 0 <<< sh ds k := by
  refine Nat.eq_of_testBit_eq fun i => ?_
  rw [acc_bits ds _ hs hv, Nat.testBit_shiftLeft, Bool.eq_iff_iff, List.any_eq_true]
  constructor
  · rintro ⟨j, hj, h⟩
    by_cases e : j = k
    · subst e
      simp only [Bool.and_eq_true, decide_eq_true_eq] at h
      rw [h.2]; simp [h.1.1]
    · rw [h0 j e] at h; simp at h
  · intro h
    simp only [Bool.and_eq_true, decide_eq_true_eq] at h
    refine ⟨k, List.mem_range.2 hk, ?_⟩
    have h1 : i - sh ds k < ds.getD k 0 := by
      by_cases h1 : i - sh ds k < ds.getD k 0
      · exact h1
      · rw [Nat.testBit_lt_two_pow (Nat.lt_of_lt_of_le (hv k) (Nat.pow_le_pow_right (by omega) (by omega)))] at h; simp at h
    simp only [Bool.and_eq_true, decide_eq_true_eq]
    exact ⟨⟨h.1, by omega⟩, h.2⟩

end Go.Proofs.Ytceedbkacbaaiaa.Wd
