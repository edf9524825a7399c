/- The sizes of chapter class: 4 and 6 times the powers of two. Plain; no condition. -/
namespace Go.Proofs.Ytceedbkacbaaiaa
namespace Cls

/-- The size at place k. -/
def sz (k : Nat) : Nat := if k % 2 = 0 then 4 * 2 ^ (k / 2) else 6 * 2 ^ (k / 2)
theorem sz_even (j : Nat) : sz (2 * j) = 4 * 2 ^ j := by
  unfold sz
  rw [if_pos (by omega), show 2 * j / 2 = j from by omega]
theorem sz_odd (j : Nat) : sz (2 * j + 1) = 6 * 2 ^ j := by
  unfold sz
  rw [if_neg (by omega), show (2 * j + 1) / 2 = j from by omega]
theorem sz_two (k : Nat) : sz (k + 2) = 2 * sz k := by
  have h : k % 2 = 0 ∨ k % 2 = 1 := by omega
  rcases h with h | h
  · obtain ⟨j, rfl⟩ : ∃ j, k = 2 * j := ⟨k / 2, by omega⟩
    rw [show 2 * j + 2 = 2 * (j + 1) from by omega, sz_even, sz_even, Nat.pow_succ]; omega
  · obtain ⟨j, rfl⟩ : ∃ j, k = 2 * j + 1 := ⟨k / 2, by omega⟩
    rw [show 2 * j + 1 + 2 = 2 * (j + 1) + 1 from by omega, sz_odd, sz_odd, Nat.pow_succ]; omega
/-- Two sizes one behind the other: the later is half as much more, or a third. -/
theorem sz_next (k : Nat) : 2 * sz (k + 1) = 3 * sz k ∨ 3 * sz (k + 1) = 4 * sz k := by
  have h : k % 2 = 0 ∨ k % 2 = 1 := by omega
  rcases h with h | h
  · obtain ⟨j, rfl⟩ : ∃ j, k = 2 * j := ⟨k / 2, by omega⟩
    left
    rw [sz_even, sz_odd]; omega
  · obtain ⟨j, rfl⟩ : ∃ j, k = 2 * j + 1 := ⟨k / 2, by omega⟩
    right
    rw [show 2 * j + 1 + 1 = 2 * (j + 1) from by omega, sz_even, sz_odd, Nat.pow_succ]; omega
theorem sz_pos (k : Nat) : 4 ≤ sz k := by
  have h : 0 < 2 ^ (k / 2) := Nat.pos_of_ne_zero (by simp)
  unfold sz
  split <;> omega
theorem sz_lt_succ (k : Nat) : sz k < sz (k + 1) := by
  have h := sz_next k
  have := sz_pos k
  omega
theorem sz_lt {j k : Nat} (h : j < k) : sz j < sz k := by
  induction k with
  | zero => omega
  | succ k ih =>
    by_cases e : j = k
    · exact e ▸ sz_lt_succ k
    · exact Nat.lt_trans (ih (by omega)) (sz_lt_succ k)
theorem sz_le {j k : Nat} (h : j ≤ k) : sz j ≤ sz k := by
  by_cases e : j = k
  · rw [e]; exact Nat.le_refl _
  · exact Nat.le_of_lt (sz_lt (by omega))
theorem sz_28 : sz 28 = 65536 := by decide
theorem sz_0 : sz 0 = 4 := by decide
theorem sz_1 : sz 1 = 6 := by decide
theorem sz_2 : sz 2 = 8 := by decide
theorem sz_3 : sz 3 = 12 := by decide
theorem pow_le {j : Nat} (h : j < 15) : 2 ^ j ≤ 16384 := Nat.pow_le_pow_right (by omega) (show j ≤ 14 by omega)

/-- The place of the least size that is m or above (m no more than 2^16). -/
def at' (m : Nat) : Nat := ((List.range 29).find? fun k => decide (m ≤ sz k)).getD 0
theorem at_spec {m : Nat} (h : m ≤ 65536) : at' m ≤ 28 ∧ m ≤ sz (at' m) ∧ ∀ j, j < at' m → sz j < m := by
  cases hf : (List.range 29).find? fun k => decide (m ≤ sz k) with
  | none =>
    have := List.find?_eq_none.1 hf 28 (by simp)
    rw [sz_28] at this
    simp at this; omega
  | some k =>
    obtain ⟨h1, as, bs, h2, h3⟩ := List.find?_eq_some_iff_append.1 hf
    have hl := congrArg (fun l => l[as.length]?) h2
    simp only [List.getElem?_append_right (Nat.le_refl _), Nat.sub_self, List.getElem?_cons_zero] at hl
    have hk : as.length = k ∧ k < 29 := by
      have hlen := congrArg List.length h2
      simp at hlen
      rw [List.getElem?_range (by omega)] at hl
      simp at hl; omega
    have hat : at' m = k := by unfold at'; rw [hf]; rfl
    rw [hat]
    refine ⟨by omega, by simpa using h1, fun j hj => ?_⟩
    have hj2 := congrArg (fun l => l[j]?) h2
    rw [List.getElem?_append_left (by omega), List.getElem?_range (by omega)] at hj2
    have := h3 j (List.mem_of_getElem? hj2.symm)
    simpa using this
theorem at_eq {m k : Nat} (h : m ≤ 65536) (h1 : m ≤ sz k) (h2 : ∀ j, j < k → sz j < m) : at' m = k := by
  obtain ⟨_, a2, a3⟩ := at_spec h
  by_cases e : at' m < k
  · have := h2 _ e; omega
  · by_cases e2 : k < at' m
    · have := a3 _ e2; omega
    · omega
/-- The size that m is rounded to. -/
def rd (m : Nat) : Nat := sz (at' m)
theorem rd_ge {m : Nat} (h : m ≤ 65536) : m ≤ rd m := (at_spec h).2.1
theorem rd_le {m : Nat} (h : m ≤ 65536) : rd m ≤ 65536 := by
  rw [← sz_28]; exact sz_le (at_spec h).1
theorem at_sz {k : Nat} (h : k ≤ 28) : at' (sz k) = k := at_eq (by rw [← sz_28]; exact sz_le h) (Nat.le_refl _) fun _ hj => sz_lt hj
theorem rd_rd {m : Nat} (h : m ≤ 65536) : rd (rd m) = rd m := by
  unfold rd
  rw [at_sz (at_spec h).1]
theorem rd_half {m : Nat} (h : m ≤ 65536) (h3 : 3 ≤ m) : 2 * rd m ≤ 3 * m := by
  obtain ⟨_, a2, a3⟩ := at_spec h
  unfold rd
  cases hk : at' m with
  | zero => rw [sz_0]; omega
  | succ k =>
    have := a3 k (by omega)
    have := sz_next k
    omega
theorem at_mono {m n : Nat} (h : m ≤ n) (hn : n ≤ 65536) : at' m ≤ at' n := by
  obtain ⟨_, a2, a3⟩ := at_spec (m := m) (by omega)
  obtain ⟨_, b2, _⟩ := at_spec hn
  by_cases e : at' n < at' m
  · have := a3 _ e; omega
  · omega
theorem rd_mono {m n : Nat} (h : m ≤ n) (hn : n ≤ 65536) : rd m ≤ rd n := sz_le (at_mono h hn)
theorem rd_eq_iff {m n : Nat} : rd m = rd n ↔ at' m = at' n := by
  constructor
  · intro h
    by_cases e : at' m < at' n
    · have := sz_lt e; unfold rd at h; omega
    · by_cases e2 : at' n < at' m
      · have := sz_lt e2; unfold rd at h; omega
      · omega
  · intro h; unfold rd; rw [h]
theorem at_double {m : Nat} (h4 : 4 ≤ m) (h : m ≤ 32768) : at' (2 * m) = at' m + 2 := by
  obtain ⟨_, a2, a3⟩ := at_spec (m := m) (by omega)
  refine at_eq (by omega) (by rw [sz_two]; omega) fun j hj => ?_
  by_cases e : j < 2
  · have h1 := sz_le (show j ≤ 1 by omega)
    rw [sz_1] at h1; omega
  · obtain ⟨i, rfl⟩ : ∃ i, j = i + 2 := ⟨j - 2, by omega⟩
    have := a3 i (by omega)
    rw [sz_two]; omega
theorem at_next {m : Nat} (h : m ≤ 32768) : at' (rd m + 1) = at' m + 1 ∧ rd m ≤ 32768 := by
  have hk : at' m ≤ 26 := by
    have h26 : at' 32768 = 26 := at_eq (by omega) (by decide) fun j hj => by
      have h1 := sz_lt hj
      rwa [show sz 26 = 32768 from by decide] at h1
    rw [← h26]; exact at_mono h (by omega)
  have hr : rd m ≤ 32768 := by
    have := sz_le hk
    rwa [show sz 26 = 32768 from by decide] at this
  refine ⟨at_eq (by omega) ?_ fun j hj => ?_, hr⟩
  · have := sz_lt_succ (at' m)
    unfold rd; omega
  · have := sz_le (show j ≤ at' m by omega)
    unfold rd; omega

end Cls
end Go.Proofs.Ytceedbkacbaaiaa
