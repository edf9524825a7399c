/- Slices of structs whose cells are integers, bools, and slices of integers: opened cell by cell. Plain; no condition. -/
import Derived.Test.YtceedbkacbaaiaaOpen
import Derived.Test.YtceedbkacbaaiaaFlat
namespace Go.Proofs.Ytceedbkacbaaiaa
open Go.ChangeShapes Go.WideShapes Go.ChangeAt Go.RowKit

/-- A cell's kind: a number of a kind of integers, a bool (inl none), or a slice of numbers (inr). -/
abbrev Kd := Option IntKind ⊕ IntKind
def KdOf (w : World) : Kd → Value → Prop
  | .inl k, v => CellOf k v
  | .inr k, v => ∃ a len cap zs, v = .slice a len cap ∧ IsRow k w a len cap zs

def nestFields (P : Program) (g : TypeId → Option (List Kd)) : List Field → Nat → Option (List Kd)
  | [], _ => some []
  | f :: r, o => match g f.type with
    | none => none
    | some ks => if f.offset = o ∧ P.cellsOf f.type = ks.length then (nestFields P g r (o + ks.length)).map (ks ++ ·) else none
def nest (P : Program) : Nat → TypeId → Option (List Kd)
  | 0, _ => none
  | n + 1, t => match P.underlying t with
    | some (.int k) => some [.inl (some k)]
    | some .bool => some [.inl none]
    | some (.slice e) => match P.underlying e with
      | some (.int k) => if P.cellsOf e = 1 then some [.inr k] else none
      | _ => none
    | some (.struct fs) => match nestFields P (nest P n) fs.toList 0 with
      | some ks => if P.cellsOf t = ks.length then some ks else none
      | none => none
    | some (.array c e) => match nest P n e with
      | some ks => if P.cellsOf e = ks.length ∧ P.cellsOf t = c * ks.length then some (List.replicate c ks).flatten else none
      | none => none
    | _ => none

/-- These cells are of these kinds. -/
def AreKd (w : World) (ks : List Kd) (cs : List Value) : Prop := cs.length = ks.length ∧ ∀ (j : Nat) k v, ks[j]? = some k → cs[j]? = some v → KdOf w k v
theorem AreKd.at_ {w : World} {ks : List Kd} {cs : List Value} (h : AreKd w ks cs) {j : Nat} {k : Kd} (hk : ks[j]? = some k) : ∃ v, cs[j]? = some v ∧ KdOf w k v := by
  have hj : j < ks.length := (List.getElem?_eq_some_iff.1 hk).1
  have hv : cs[j]? = some (cs[j]'(by rw [h.1]; exact hj)) := List.getElem?_eq_getElem _
  exact ⟨_, hv, h.2 j k _ hk hv⟩
theorem AreKd.append {w : World} {ks ls : List Kd} {cs ds : List Value} (h : AreKd w ks cs) (g : AreKd w ls ds) : AreKd w (ks ++ ls) (cs ++ ds) := by
  refine ⟨by simp [h.1, g.1], fun j k v hk hv => ?_⟩
  by_cases hj : j < ks.length
  · rw [List.getElem?_append_left hj] at hk
    rw [List.getElem?_append_left (by rw [h.1]; exact hj)] at hv
    exact h.2 j k v hk hv
  · rw [List.getElem?_append_right (by omega)] at hk
    rw [List.getElem?_append_right (by rw [h.1]; omega), h.1] at hv
    exact g.2 _ k v hk hv

section
variable {H : Type} {enc : TypeId × Value → H} {P : Program} {w : World} {base b0 : Nat} {held : Bool} {r : Reach}

theorem nestFields_ok {g : TypeId → Option (List Kd)} {n : Nat} {cs : List Value} (hg : ∀ t ks, g t = some ks → ∀ ds x, DataW.trod enc P w base (fun _ => true) held n t ds = some x → AreKd w ks ds) :
    ∀ (fs : List Field) (o : Nat) (ks : List Kd), nestFields P g fs o = some ks → (∀ f ∈ fs, ∃ x, DataW.trod enc P w base (fun _ => true) held n f.type ((cs.drop f.offset).take (P.cellsOf f.type)) = some x) → AreKd w ks ((cs.drop o).take ks.length) := by
  intro fs
  induction fs with
  | nil =>
    intro o ks h _
    simp [nestFields] at h
    subst h
    exact ⟨by simp, fun j k v hk => by simp at hk⟩
  | cons f r ih =>
    intro o ks h hx
    unfold nestFields at h
    cases e : g f.type with
    | none => simp [e] at h
    | some k1 =>
      simp only [e] at h
      by_cases hc : f.offset = o ∧ P.cellsOf f.type = k1.length
      · rw [if_pos hc] at h
        obtain ⟨k2, h2, rfl⟩ := Option.map_eq_some_iff.1 h
        obtain ⟨x, hx1⟩ := hx f (by simp)
        rw [hc.1, hc.2] at hx1
        have a1 := hg _ _ e _ _ hx1
        have a2 := ih _ _ h2 fun f hf => hx f (by simp [hf])
        have := a1.append a2
        have e3 : (cs.drop o).take (k1 ++ k2).length = (cs.drop o).take k1.length ++ (cs.drop (o + k1.length)).take k2.length := by
          rw [List.length_append, List.take_add, List.drop_drop]
        rw [e3]
        exact this
      · rw [if_neg hc] at h
        cases h

theorem nest_ok : ∀ (n : Nat) (t : TypeId) (ks : List Kd), nest P n t = some ks → ∀ fuel cs x, DataW.trod enc P w base (fun _ => true) held fuel t cs = some x → AreKd w ks cs := by
  intro n
  induction n with
  | zero => intro t ks h; simp [nest] at h
  | succ n ih =>
    intro t ks h fuel cs x hx
    unfold nest at h
    split at h
    · rename_i k ht
      injection h with h
      subst h
      obtain ⟨z, rfl, _, hw⟩ := DataW.trod_int ht hx
      refine ⟨rfl, fun j k' v hk hv => ?_⟩
      match j with
      | 0 => simp at hk hv; subst hk hv; exact ⟨z, rfl, hw⟩
      | j + 1 => simp at hk
    · rename_i ht
      injection h with h
      subst h
      obtain ⟨z, rfl, _⟩ := DataW.trod_bool ht hx
      refine ⟨rfl, fun j k' v hk hv => ?_⟩
      match j with
      | 0 => simp at hk hv; subst hk hv; exact ⟨z, rfl⟩
      | j + 1 => simp at hk
    · rename_i e ht
      split at h
      · rename_i k he
        by_cases hc : P.cellsOf e = 1
        · rw [if_pos hc] at h
          injection h with h
          subst h
          have key : ∃ a len cap, cs = [.slice a len cap] := by
            rcases open_ints ht he hc hx with ⟨rfl, _⟩ | ⟨y, l, c, zs, rfl, _⟩
            · exact ⟨_, _, _, rfl⟩
            · exact ⟨_, _, _, rfl⟩
          obtain ⟨a, len, cap, rfl⟩ := key
          obtain ⟨zs, hz⟩ := open_row (len := len) ht he hc ⟨fuel, hx⟩
          refine ⟨rfl, fun j k' v hk hv => ?_⟩
          match j with
          | 0 => simp at hk hv; subst hk hv; exact ⟨a, len, cap, zs, rfl, hz⟩
          | j + 1 => simp at hk
        · rw [if_neg hc] at h; cases h
      · cases h
    · rename_i fs ht
      split at h
      · rename_i ks' hf
        by_cases hc : P.cellsOf t = ks'.length
        · rw [if_pos hc] at h
          injection h with h
          subst h
          obtain ⟨xs, m, _, _, hlen, hxl, hat⟩ := DataW.trod_struct ht hx
          have := nestFields_ok (cs := cs) (fun t ks ht ds x hx => ih t ks ht m ds x hx) fs.toList 0 ks' hf (fun f hm => by
            obtain ⟨i, hi, rfl⟩ := List.mem_iff_getElem.1 hm
            have hi' : i < fs.size := by simpa using hi
            have h1 := hat i fs.toList[i] (by simp [hi'])
            rw [List.getElem?_eq_getElem (by omega)] at h1
            exact ⟨_, h1⟩)
          rw [List.drop_zero, List.take_of_length_le (by rw [hlen, hc]; exact Nat.le_refl _)] at this
          exact this
        · rw [if_neg hc] at h; cases h
      · cases h
    · rename_i c e ht
      split at h
      · rename_i ks' hf
        by_cases hc : P.cellsOf e = ks'.length ∧ P.cellsOf t = c * ks'.length
        · rw [if_pos hc] at h
          injection h with h
          subst h
          obtain ⟨xs, m, _, _, hlen, hxl, hat⟩ := DataW.trod_array ht hx
          have key : ∀ i, i ≤ c → AreKd w (List.replicate i ks').flatten (cs.take (i * ks'.length)) := by
            intro i
            induction i with
            | zero => intro _; exact ⟨by simp, fun j k v hk => by simp at hk⟩
            | succ i ihi =>
              intro hi
              have h1 := hat i (by omega)
              rw [List.getElem?_eq_getElem (by omega), hc.1] at h1
              have a2 := ih _ _ hf _ _ _ h1
              have := (ihi (by omega)).append a2
              rw [List.replicate_succ', List.flatten_append, show (i + 1) * ks'.length = i * ks'.length + ks'.length from by rw [Nat.add_mul, Nat.one_mul], List.take_add]
              simpa using this
          have := key c (Nat.le_refl _)
          rw [List.take_of_length_le (by rw [hlen, hc.2]; exact Nat.le_refl _)] at this
          exact this
        · rw [if_neg hc] at h; cases h
      · cases h
    · cases h

/-- A slice whose elements are such cells: without room, or a row of 'cap' elements, of which the first 'len' are its own; cell j of element i holds 'V i j'. -/
def IsNest (ks : List Kd) (w : World) (a : Option Addr) (len cap : Nat) (V : Nat → Nat → Value) : Prop :=
  (len = 0 ∧ cap = 0) ∨
  ∃ b off, a = some ⟨b, off, none⟩ ∧ b < w.heap.size ∧ len ≤ cap ∧ cap ≤ maxLen ∧ ∀ i, i < cap → ∀ j k, ks[j]? = some k → w.cell? ⟨b, off + i * ks.length + j, none⟩ = some (V i j) ∧ KdOf w k (V i j)

theorem open_nests {n : Nat} {t e : TypeId} {ks : List Kd} {a : Option Addr} {len cap : Nat} {d : DataW H} {p : List MemPlace} (ht : P.underlying t = some (.slice e)) (hk : nest P n e = some ks) (hC : P.cellsOf e = ks.length) (hpos : 0 < ks.length)
    (h : DataW.Trod enc P w base (fun _ => true) held t (.slice a len cap) d p) : ∃ V, IsNest ks w a len cap V := by
  obtain ⟨fuel, hf⟩ := h
  rcases Deep.open_slice ht hf with ⟨hcs, _⟩ | ⟨x, l, c, m, n', D, Pl, hcs, hb, hl, hm, hmm, _, hi⟩
  · simp [Value.cells] at hcs
    obtain ⟨rfl, rfl, rfl⟩ := hcs
    exact ⟨fun _ _ => undef, .inl ⟨rfl, rfl⟩⟩
  · simp [Value.cells] at hcs
    obtain ⟨rfl, rfl, rfl⟩ := hcs
    rw [if_pos rfl] at hmm
    subst hmm
    rw [hC] at hi
    have key : ∀ i, i < m → ∃ cs : List Value, AreKd w ks cs ∧ ∀ j v, cs[j]? = some v → w.cell? (x.add (i * ks.length + j)) = some v := by
      intro i hlt
      obtain ⟨cs, h1, h2⟩ := hi i hlt
      have hA := nest_ok n e ks hk _ _ _ h2
      refine ⟨cs, hA, fun j v hv => ?_⟩
      obtain ⟨_, hlen, hat⟩ := World.cells?_some h1
      have hj : j < cs.length := (List.getElem?_eq_some_iff.1 hv).1
      have := hat j (by omega)
      rw [hv, Deep.add_add] at this
      exact this
    obtain ⟨F, hF⟩ := Deep.choose_lt key
    by_cases h0 : m = 0
    · subst h0
      exact ⟨fun _ _ => undef, .inl ⟨by omega, rfl⟩⟩
    · obtain ⟨b, off, spot⟩ := x
      have hA0 := (hF 0 (by omega)).1
      have hk0 : ks[0]? = some ks[0] := List.getElem?_eq_getElem hpos
      obtain ⟨v0, hv0, _⟩ := hA0.at_ hk0
      have hc0 := (hF 0 (by omega)).2 0 v0 hv0
      have hspot : spot = none := by simpa [Addr.add] using World.cell?_spot hc0
      subst hspot
      refine ⟨fun i j => (F i).getD j undef, .inr ⟨b, off, rfl, World.block_lt_of_cell? w ⟨b, off, none⟩ (by simpa [Addr.add] using hc0), hl, hm, fun i hlt j k hjk => ?_⟩⟩
      obtain ⟨v, hv, hkv⟩ := (hF i hlt).1.at_ hjk
      have hc := (hF i hlt).2 j v hv
      have e : (F i).getD j undef = v := by rw [List.getD_eq_getElem?_getD, hv]; rfl
      show _ = some ((F i).getD j undef) ∧ KdOf w k ((F i).getD j undef)
      rw [e]
      refine ⟨?_, hkv⟩
      have e2 : (⟨b, off, none⟩ : Addr).add (i * ks.length + j) = ⟨b, off + i * ks.length + j, none⟩ := by
        unfold Addr.add; split <;> simp_all [Nat.add_assoc]
      rw [← e2]; exact hc
end

end Go.Proofs.Ytceedbkacbaaiaa
