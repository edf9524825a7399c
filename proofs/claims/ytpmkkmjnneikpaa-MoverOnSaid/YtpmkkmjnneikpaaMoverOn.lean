/- What the law MoverOn keeps of its rows: slices of words, one for each object; objects copied in their order. Plain; no condition. -/
import Derived.Test.YtpmkkmjnneikpaaMoverLay
namespace Go.Proofs.Ytpmkkmjnneikpaa.moverOn
open Go.ChangeShapes Go.WideShapes Go.ChangeAt Go.RowKit
set_option linter.unusedVariables false
set_option linter.unusedSimpArgs false

theorem infoShape : (Try.prog.info? 32).map (fun i => (i.zero, i.size, i.bytes)) = some (some (.agg #[.int .i64 0, .int .i64 0, .bool false, .bool false]), 4, 24) := by kernel_rfl
theorem infoRow : (Try.prog.info? 39).map (fun i => (i.zero, i.size, i.bytes)) = some (some (.slice none 0 0), 1, 24) := by kernel_rfl

/-- Cells to be appended that lie in a block that is known whole. -/
theorem news_blk {w : World} {g : Nat} {cs : List Value} {t : TypeId} (h : BlkIs w g cs.toArray t) : ∀ j u, cs[j]? = some u → w.cell? ((⟨g, 0, none⟩ : Addr).add j) = some u := by
  intro j u hj
  have e : (⟨g, 0, none⟩ : Addr).add j = ⟨g, j, none⟩ := by unfold Addr.add; split <;> simp_all
  rw [e, h.cell j]
  simpa using hj

/-- The cells of an object's shape. -/
def shC (o : Ob) : List Value := [.int .i64 o.p, .int .i64 o.d, .bool o.wk, .bool o.fn]
def shsC (os : Nat → Ob) (i : Nat) : List Value := ((List.range i).map fun k => shC (os k)).flatten
theorem shsC_snoc (os : Nat → Ob) (i : Nat) : shsC os i ++ shC (os i) = shsC os (i + 1) := by unfold shsC; rw [List.range_succ]; simp
theorem shsC_length (os : Nat → Ob) (i : Nat) : (shsC os i).length = i * 4 := by
  induction i with
  | zero => rfl
  | succ i ih => rw [← shsC_snoc, List.length_append, ih]; simp [shC]; omega
theorem shsC_at (os : Nat → Ob) {i k j : Nat} (hk : k < i) (hj : j < 4) : (shsC os i)[k * 4 + j]? = (shC (os k))[j]? := by
  induction i with
  | zero => omega
  | succ i ih =>
    rw [← shsC_snoc]
    by_cases e : k = i
    · subst e
      rw [List.getElem?_append_right (by rw [shsC_length]; omega), shsC_length, show k * 4 + j - k * 4 = j from by omega]
    · rw [List.getElem?_append_left (by rw [shsC_length]; omega)]
      exact ih (by omega)

/-- Slices of words, one for each of the first i objects: what lay behind its head in l₀. -/
def RowsAt (B : Nat) (x : World) (os : Nat → Ob) (l₀ : List Int) (ss : List Value) (i : Nat) : Prop :=
  ss.length = i ∧ ∀ j, j < i → ∃ h c cur, ss[j]? = some (.slice (some ⟨h, 0, none⟩) (2 + (os j).p + (os j).d) c) ∧ 2 + (os j).p + (os j).d ≤ c ∧ B ≤ h ∧ BlkIs x h cur 40 ∧ ∀ t, t < 2 + (os j).p + (os j).d → cur[t]? = some (.int .u64 (l₀.getD (1 + off os j + 1 + t) 0))
theorem RowsAt.keep {B : Nat} {x y : World} {os : Nat → Ob} {l₀ : List Int} {ss : List Value} {i : Nat} (h : RowsAt B x os l₀ ss i) (hk : ∀ g cur, B ≤ g → BlkIs x g cur 40 → BlkIs y g cur 40) : RowsAt B y os l₀ ss i :=
  ⟨h.1, fun j hj => by
    obtain ⟨g, c, cur, e, hc, hB, hb, hr⟩ := h.2 j hj
    exact ⟨g, c, cur, e, hc, hB, hk g cur hB hb, hr⟩⟩
theorem RowsAt.chg {B : Nat} {x y : World} {os : Nat → Ob} {l₀ : List Int} {ss : List Value} {i : Nat} {S : Nat → Prop} (h : RowsAt B x os l₀ ss i) (hc : Chg S x y) (hs : ∀ g, B ≤ g → ¬ S g) : RowsAt B y os l₀ ss i :=
  h.keep fun g cur hB hb => hb.chg hc (hs g hB)
/-- A row of another type is appended to. -/
theorem RowsAt.grown {B base n size : Nat} {x y : World} {os : Nat → Ob} {l₀ : List Int} {ss xs : List Value} {i : Nat} {e : TypeId} {v : Value} (h : RowsAt B x os l₀ ss i) (ho : x.ownsRow base e size v n xs) (hte : e ≠ 40) (hg : x.grownBy y v.ownBlock) : RowsAt B y os l₀ ss i :=
  h.keep fun g cur hB hb => by
    refine (hg.block g hb.lt fun e' => ?_).trans hb
    rcases ho.2 with ⟨rfl, _⟩ | ⟨g', cap, cur', rfl, _, hh, _⟩
    · simp [Value.ownBlock] at e'
    · simp [Value.ownBlock] at e'
      subst e'
      unfold BlkIs at hb
      rw [hh] at hb
      injection hb with hb
      injection hb with _ hb
      exact hte hb
theorem RowsAt.snoc {B : Nat} {x : World} {os : Nat → Ob} {l₀ : List Int} {ss : List Value} {i : Nat} {v : Value} (h : RowsAt B x os l₀ ss i)
    (hv : x.ownsRow B 40 1 v (2 + (os i).p + (os i).d) ((wordsL l₀ (1 + off os i) (2 + (os i).p + (os i).d)).map (Value.int .u64))) : RowsAt B x os l₀ (ss ++ [v]) (i + 1) := by
  refine ⟨by rw [List.length_append, h.1]; rfl, fun j hj => ?_⟩
  by_cases e : j = i
  · subst e
    rcases hv.2 with ⟨_, h0⟩ | ⟨g, cap, cur, rfl, hb, hh, hc, _, _, ht⟩
    · omega
    · refine ⟨g, cap, cur, by rw [List.getElem?_append_right (by rw [h.1]; omega), h.1, Nat.sub_self]; rfl, hc, hb, hh, fun t ht' => ?_⟩
      have e1 : (cur.toList.take ((2 + (os j).p + (os j).d) * 1))[t]? = cur[t]? := by rw [List.getElem?_take_of_lt (by omega)]; simp
      rw [← e1, ht]
      unfold wordsL
      simp [ht']
  · obtain ⟨g, c, cur, e1, r⟩ := h.2 j (by omega)
    exact ⟨g, c, cur, by rw [List.getElem?_append_left (by rw [h.1]; omega)]; exact e1, r⟩
/-- A row of one type's own stays, where a row of another type's is appended to. -/
theorem own_apart {x y : World} {b1 b2 n1 n2 s1 s2 : Nat} {e1 e2 : TypeId} {v1 v2 : Value} {xs1 xs2 : List Value} (h : x.ownsRow b1 e1 s1 v1 n1 xs1) (ho : x.ownsRow b2 e2 s2 v2 n2 xs2) (hte : e1 ≠ e2) (hg : x.grownBy y v2.ownBlock) : y.ownsRow b1 e1 s1 v1 n1 xs1 := by
  refine h.kept hg ?_
  rcases h.2 with ⟨rfl, _⟩ | ⟨g, cap, cur, rfl, _, hh, _⟩
  · exact .inl rfl
  · refine .inr fun e' => ?_
    rcases ho.2 with ⟨rfl, _⟩ | ⟨g', cap', cur', rfl, _, hh', _⟩
    · simp [Value.ownBlock] at e'
    · simp [Value.ownBlock] at e'
      subst e'
      rw [hh] at hh'
      injection hh' with hh'
      injection hh' with _ hh'
      exact hte hh'

/-- A row whose block has not turned. -/
theorem own_stay {S : Nat → Prop} {x y : World} {base n g c size : Nat} {e : TypeId} {xs : List Value} (h : x.ownsRow base e size (.slice (some ⟨g, 0, none⟩) n c) n xs) (hc : Chg S x y) (hg : ¬ S g) : y.ownsRow base e size (.slice (some ⟨g, 0, none⟩) n c) n xs := by
  refine ⟨h.1, h.2.imp id ?_⟩
  rintro ⟨g', cap, cur, e', hb, hh, r⟩
  obtain rfl : g = g' := by cases e'; rfl
  exact ⟨g, cap, cur, e', hb, (hc.block g (lt_of_block hh) hg).trans hh, r⟩
theorem own_form {x : World} {base n size : Nat} {e : TypeId} {v : Value} {xs : List Value} (h : x.ownsRow base e size v n xs) (hn : 0 < n) : ∃ g c, v = .slice (some ⟨g, 0, none⟩) n c ∧ base ≤ g ∧ g < x.heap.size ∧ n ≤ c := by
  rcases h.2 with ⟨_, h0⟩ | ⟨g, cap, cur, rfl, hb, hh, hc, _⟩
  · omega
  · exact ⟨g, cap, rfl, hb, lt_of_block hh, hc⟩
theorem own_nil {x : World} {base size : Nat} {e : TypeId} {v : Value} {xs : List Value} (h : x.ownsRow base e size v 0 xs) : ∃ a c, v = .slice a 0 c := by
  rcases h.2 with ⟨rfl, _⟩ | ⟨g, cap, cur, rfl, _⟩
  · exact ⟨_, _, rfl⟩
  · exact ⟨_, _, rfl⟩

/-! Objects copied one behind the other -/
/-- The k-th object's words stand at base B as they stood in l₀ at base 1. -/
def Eq (l l₀ : List Int) (B : Nat) (os : Nat → Ob) (k : Nat) : Prop := ∀ j, j < (os k).n → l.getD (B + off os k + j) 0 = l₀.getD (1 + off os k + j) 0
/-- The first i are at T, the others at B. -/
def Mid (l l₀ : List Int) (T B : Nat) (os : Nat → Ob) (m i : Nat) : Prop := (∀ k, k < i → Eq l l₀ T os k) ∧ ∀ k, i ≤ k → k < m → Eq l l₀ B os k

section
variable {l l₀ : List Int} {T B m i : Nat} {os : Nat → Ob}
theorem Eq.obj {k : Nat} (h : Eq l l₀ B os k) (ho : ObsAt l₀ 1 os m) (hk : k < m) (hr : off os m ≤ 150) (hl : B + 150 ≤ l.length) : ObjIs l (B + off os k) (os k).p (os k).d (os k).wk (os k).fn (os k).fr := by
  have o := ho k hk
  have h1 := off_room hk o.ptrs o.data
  have h2 := h 0 (by have := (Ob.n_le o.ptrs o.data).1; omega)
  refine ⟨o.right, o.ptrs, o.data, ?_, ?_⟩
  · have : (os k).n = 3 + (os k).p + (os k).d := rfl
    omega
  · have h3 := o.head
    simp only [Nat.add_zero] at h2
    rw [h2]; exact h3
theorem Mid.step (h : Mid l l₀ T B os m i) (ho : ObsAt l₀ 1 os m) (hi : i < m) (hr : off os m ≤ 150) (hT : B + 150 ≤ T) (hl : T + 150 ≤ l.length) : Mid (copyL l (B + off os i) (T + off os i) (os i).n) l₀ T B os m (i + 1) := by
  have hrm : ∀ k, k < m → off os k + (os k).n ≤ 150 := fun k hk => by
    have o := ho k hk
    have := off_room hk o.ptrs o.data
    omega
  refine ⟨fun k hk j hj => ?_, fun k hk hkm j hj => ?_⟩
  · have hkm : k < m := by omega
    have h1 := hrm k hkm
    have h4 := hrm i hi
    have h5 := (Ob.n_le (ho i hi).ptrs (ho i hi).data).1
    rw [copyL_at (by omega), if_neg (by omega)]
    by_cases e : k = i
    · subst e
      rw [if_pos (by omega)]
      have := h.2 k (Nat.le_refl _) hkm j hj
      rw [show B + off os k + (T + off os k + j - (T + off os k)) = B + off os k + j from by omega]
      exact this
    · have hki : k < i := by omega
      have o := ho k hkm
      have h2 := off_room hki o.ptrs o.data
      rw [if_neg (by omega)]
      exact h.1 k hki j hj
  · have h1 := hrm k hkm
    have o := ho i hi
    have h2 := off_room (show i < k by omega) o.ptrs o.data
    have h3 := (Ob.n_le o.ptrs o.data).1
    rw [copyL_at (by omega), if_neg (by omega), if_neg (by omega)]
    exact h.2 k (by omega) hkm j hj
theorem Mid.all (h : Mid l l₀ T B os m m) (B' : Nat) : Mid l l₀ B' T os m 0 := ⟨fun k hk => by omega, fun k _ hk => h.1 k hk⟩
theorem Mid.first (l : List Int) (T : Nat) (os : Nat → Ob) (m : Nat) : Mid l l T 1 os m 0 := ⟨fun k hk => by omega, fun k _ _ j _ => rfl⟩
theorem Mid.obs (h : Mid l l₀ T B os m m) (ho : ObsAt l₀ 1 os m) (hr : off os m ≤ 150) (hl : T + 150 ≤ l.length) : ObsAt l T os m := fun k hk => (h.1 k hk).obj ho hk hr hl
end

/-- The places, the first i of them at T, the others at B. -/
def MidP (xs : List Nat) (T B : Nat) (os : Nat → Ob) (m i : Nat) : Prop := xs.length = m ∧ ∀ j, j < m → xs.getD j 0 = if j < i then T + off os j else B + off os j
theorem MidP.step {xs : List Nat} {T B m i : Nat} {os : Nat → Ob} (h : MidP xs T B os m i) (hi : i < m) : MidP (xs.set i (T + off os i)) T B os m (i + 1) := by
  refine ⟨by rw [List.length_set]; exact h.1, fun j hj => ?_⟩
  rw [List.getD_eq_getElem?_getD, List.getElem?_set]
  by_cases e : i = j
  · subst e
    rw [if_pos rfl, if_pos (by rw [h.1]; exact hj), if_pos (by omega)]
    rfl
  · rw [if_neg e, ← List.getD_eq_getElem?_getD, h.2 j hj]
    by_cases e2 : j < i
    · rw [if_pos e2, if_pos (by omega)]
    · rw [if_neg e2, if_neg (by omega)]
theorem midP_ext {xs ys : List Nat} (hl : xs.length = ys.length) (h : ∀ j, j < xs.length → xs.getD j 0 = ys.getD j 0) : xs = ys := by
  refine List.ext_getElem hl fun i h1 h2 => ?_
  have := h i h1
  simpa [List.getD, h1, h2] using this
theorem MidP.done {xs : List Nat} {T B m : Nat} {os : Nat → Ob} (h : MidP xs T B os m m) : xs = plc os T m :=
  midP_ext (by rw [h.1, plc_length]) fun j hj => by rw [h.1] at hj; rw [h.2 j hj, if_pos hj, plc_at hj]
theorem midP_plc (os : Nat → Ob) (T B m : Nat) : MidP (plc os B m) T B os m 0 := ⟨plc_length _ _ _, fun j hj => by rw [plc_at hj, if_neg (by omega)]⟩
theorem valsN_set (xs : List Nat) (i v : Nat) : (valsN xs).set i (.int .i64 (v : Int)) = valsN (xs.set i v) := by unfold valsN; rw [List.map_set]
theorem valsN_at {xs : List Nat} {j : Nat} (h : j < xs.length) : (valsN xs)[j]? = some (.int .i64 (xs.getD j 0 : Nat)) := by unfold valsN; simp [List.getD, h]

end Go.Proofs.Ytpmkkmjnneikpaa.moverOn
