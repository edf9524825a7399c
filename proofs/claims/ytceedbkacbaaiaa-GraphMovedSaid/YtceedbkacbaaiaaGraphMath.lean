/- What one comes to from roots, plainly: lists of places, one behind the other, each once. No condition. -/
import Derived.Test.YtceedbkacbaaiaaMem
namespace Go.Proofs.Ytceedbkacbaaiaa
set_option linter.unusedVariables false

/-- Which one a place is in a list. -/
def pos (x : Int) : List Int → Option Nat
  | [] => none
  | y :: l => if y = x then some 0 else (pos x l).map (· + 1)
theorem pos_mem {x : Int} {l : List Int} : (pos x l).isSome = true ↔ x ∈ l := by
  induction l with
  | nil => simp [pos]
  | cons y l ih =>
    unfold pos
    by_cases e : y = x
    · simp [e]
    · rw [if_neg e]
      have e' : ¬ x = y := fun h => e h.symm
      simp [ih, e']
theorem pos_none {x : Int} {l : List Int} (h : x ∉ l) : pos x l = none := by
  cases e : pos x l with
  | none => rfl
  | some k => exact absurd (pos_mem.1 (by rw [e]; rfl)) h
theorem pos_at {x : Int} {l : List Int} {k : Nat} (h : pos x l = some k) : k < l.length ∧ l.getD k 0 = x := by
  induction l generalizing k with
  | nil => simp [pos] at h
  | cons y l ih =>
    unfold pos at h
    by_cases e : y = x
    · rw [if_pos e] at h
      injection h with h
      subst h
      exact ⟨by simp, by simpa using e⟩
    · rw [if_neg e] at h
      cases e2 : pos x l with
      | none => rw [e2] at h; simp at h
      | some j =>
        rw [e2] at h
        simp at h
        subst h
        obtain ⟨h1, h2⟩ := ih e2
        exact ⟨by simp; omega, by simpa using h2⟩
theorem pos_snoc (x y : Int) (l : List Int) (hy : y ∉ l) : pos x (l ++ [y]) = if x = y then some l.length else pos x l := by
  induction l with
  | nil =>
    simp only [List.nil_append, pos, List.length_nil]
    by_cases e : x = y
    · rw [if_pos e, if_pos e.symm]
    · rw [if_neg e, if_neg fun h => e h.symm]; rfl
  | cons z l ih =>
    have h1 : y ∉ l := fun h => hy (List.mem_cons_of_mem _ h)
    have h2 : ¬ y = z := fun h => hy (by rw [h]; exact List.mem_cons_self)
    rw [List.cons_append]
    unfold pos
    rw [ih h1]
    by_cases e : x = y
    · subst e
      rw [if_neg fun h => h2 h.symm, if_pos rfl, if_pos rfl]
      rfl
    · rw [if_neg e, if_neg e]
theorem pos_map {φ : Int → Int} {x : Int} {l : List Int} (h : ∀ y ∈ l, φ y = φ x → y = x) : pos (φ x) (l.map φ) = pos x l := by
  induction l with
  | nil => rfl
  | cons y l ih =>
    rw [List.map_cons]
    unfold pos
    rw [ih fun z hz => h z (List.mem_cons_of_mem _ hz)]
    by_cases e : y = x
    · rw [if_pos e, if_pos (by rw [e])]
    · rw [if_neg e, if_neg fun e' => e (h y List.mem_cons_self e')]

/-- What is told of a place: which one it is, -1 for 0, -2 where it is none. -/
def rankV (o : List Int) (x : Int) : Int := if x = 0 then -1 else ((pos x o).map fun k : Nat => (k : Int)).getD (-2)

/-- One place more, if it is none yet. -/
def add1 (o : List Int) (x : Int) : List Int := if x = 0 ∨ x ∈ o then o else o ++ [x]
def addO (o l : List Int) : List Int := l.foldl add1 o
theorem addO_app (o l m : List Int) : addO o (l ++ m) = addO (addO o l) m := List.foldl_append
theorem addO_take {o l : List Int} {k : Nat} (h : k < l.length) : addO o (l.take (k + 1)) = add1 (addO o (l.take k)) (l.getD k 0) := by
  rw [List.take_succ_eq_append_getElem h, addO_app]
  simp [addO, List.getD, h]
theorem add1_mem {o : List Int} {x y : Int} : y ∈ add1 o x ↔ y ∈ o ∨ (y = x ∧ x ≠ 0) := by
  unfold add1
  by_cases h : x = 0 ∨ x ∈ o
  · rw [if_pos h]
    refine ⟨.inl, fun h' => h'.elim id fun ⟨e, n⟩ => ?_⟩
    rcases h with h | h
    · exact absurd h n
    · rw [e]; exact h
  · rw [if_neg h, List.mem_append, List.mem_singleton]
    exact ⟨fun h' => h'.imp id fun e => ⟨e, fun e0 => h (.inl e0)⟩, fun h' => h'.imp id fun e => e.1⟩
theorem addO_mem {o l : List Int} {y : Int} : y ∈ addO o l ↔ y ∈ o ∨ (y ∈ l ∧ y ≠ 0) := by
  induction l generalizing o with
  | nil => simp [addO]
  | cons x l ih =>
    show y ∈ addO (add1 o x) l ↔ _
    rw [ih, add1_mem, List.mem_cons]
    constructor
    · rintro ((h | ⟨e, n⟩) | ⟨h, n⟩)
      · exact .inl h
      · exact .inr ⟨.inl e, by rw [e]; exact n⟩
      · exact .inr ⟨.inr h, n⟩
    · rintro (h | ⟨e | h, n⟩)
      · exact .inl (.inl h)
      · exact .inl (.inr ⟨e, by rw [← e]; exact n⟩)
      · exact .inr ⟨h, n⟩
/-- Places that are none twice, and none of them is 0. -/
def Ord (o : List Int) : Prop := o.Nodup ∧ (0 : Int) ∉ o
theorem ord_nil : Ord [] := ⟨List.Pairwise.nil, by simp⟩
theorem add1_ord {o : List Int} (h : Ord o) (x : Int) : Ord (add1 o x) := by
  unfold add1
  by_cases e : x = 0 ∨ x ∈ o
  · rw [if_pos e]; exact h
  · rw [if_neg e]
    refine ⟨List.nodup_append.2 ⟨h.1, by simp, fun a ha b hb => ?_⟩, fun hm => ?_⟩
    · have : b = x := by simpa using hb
      subst this
      rintro rfl
      exact e (.inr ha)
    · rcases List.mem_append.1 hm with hm | hm
      · exact h.2 hm
      · exact e (.inl (by simpa using hm : (0 : Int) = x).symm)
theorem addO_ord {o : List Int} (h : Ord o) (l : List Int) : Ord (addO o l) := by
  induction l generalizing o with
  | nil => exact h
  | cons x l ih => exact ih (add1_ord h x)
theorem add1_pre (o : List Int) (x : Int) : ∃ m, add1 o x = o ++ m := by
  unfold add1
  by_cases e : x = 0 ∨ x ∈ o
  · rw [if_pos e]; exact ⟨[], by simp⟩
  · rw [if_neg e]; exact ⟨[x], rfl⟩
theorem addO_pre (o l : List Int) : ∃ m, addO o l = o ++ m := by
  induction l generalizing o with
  | nil => exact ⟨[], by simp [addO]⟩
  | cons x l ih =>
    obtain ⟨m, hm⟩ := add1_pre o x
    obtain ⟨m', hm'⟩ := ih (add1 o x)
    exact ⟨m ++ m', by show addO (add1 o x) l = _; rw [hm', hm, List.append_assoc]⟩
/-- What is in it, or nothing, changes nothing. -/
theorem addO_in {o l : List Int} (h : ∀ x ∈ l, x = 0 ∨ x ∈ o) : addO o l = o := by
  induction l generalizing o with
  | nil => rfl
  | cons x l ih =>
    have e : add1 o x = o := by unfold add1; rw [if_pos (h x List.mem_cons_self)]
    show addO (add1 o x) l = o
    rw [e]
    exact ih fun y hy => h y (List.mem_cons_of_mem _ hy)
theorem addO_map {φ : Int → Int} {o l : List Int} (h0 : ∀ x ∈ l, φ x = 0 ↔ x = 0) (hi : ∀ x ∈ l, ∀ y, y ∈ o ∨ y ∈ l → φ y = φ x → y = x) : addO (o.map φ) (l.map φ) = (addO o l).map φ := by
  induction l generalizing o with
  | nil => rfl
  | cons x l ih =>
    have e : add1 (o.map φ) (φ x) = (add1 o x).map φ := by
      unfold add1
      have h1 := h0 x List.mem_cons_self
      have h2 : φ x ∈ o.map φ ↔ x ∈ o := by
        rw [List.mem_map]
        exact ⟨fun ⟨y, hy, e⟩ => by rw [← hi x List.mem_cons_self y (.inl hy) e]; exact hy, fun h => ⟨x, h, rfl⟩⟩
      by_cases e : x = 0 ∨ x ∈ o
      · rw [if_pos e, if_pos (by rw [h1, h2]; exact e)]
      · rw [if_neg e, if_neg (by rw [h1, h2]; exact e)]
        simp
    show addO (add1 (o.map φ) (φ x)) (l.map φ) = (addO (add1 o x) l).map φ
    rw [e]
    refine ih (fun y hy => h0 y (List.mem_cons_of_mem _ hy)) fun y hy z hz e => hi y (List.mem_cons_of_mem _ hy) z ?_ e
    rcases hz with hz | hz
    · rcases add1_mem.1 hz with h | ⟨rfl, _⟩
      · exact .inl h
      · exact .inr List.mem_cons_self
    · exact .inr (List.mem_cons_of_mem _ hz)

theorem nodup_len {o V : List Int} (h : o.Nodup) (hs : ∀ x ∈ o, x ∈ V) : o.length ≤ V.length := by
  induction o generalizing V with
  | nil => simp
  | cons x o ih =>
    have hx := hs x List.mem_cons_self
    have hn := List.nodup_cons.1 h
    have := ih hn.2 (V := V.erase x) fun y hy => (List.mem_erase_of_ne fun e => hn.1 (by rw [← e]; exact hy)).2 (hs y (List.mem_cons_of_mem _ hy))
    rw [List.length_erase_of_mem hx] at this
    have h1 : 0 < V.length := List.length_pos_of_mem hx
    simp
    omega

/-- On from the i-th place, as long as there are more. -/
def goO (G : Int → List Int) : Nat → List Int → Nat → List Int
  | 0, o, _ => o
  | n + 1, o, i => if i < o.length then goO G n (addO o (G (o.getD i 0))) (i + 1) else o
def reachO (G : Int → List Int) (n : Nat) (r : List Int) : List Int := goO G n (addO [] r) 0
theorem goO_end {G : Int → List Int} {n : Nat} {o : List Int} {i : Nat} (h : o.length ≤ i) : goO G n o i = o := by
  cases n with
  | zero => rfl
  | succ n => unfold goO; rw [if_neg (by omega)]

/-- Closed up to the i-th, whatever is in it is a root or what one ahead of it points to. -/
structure Inv (G : Int → List Int) (V r o : List Int) (i : Nat) : Prop where
  ord : Ord o
  sub : ∀ x ∈ o, x ∈ V
  roots : ∀ x ∈ r, x ≠ 0 → x ∈ o
  shut : ∀ j, j < i → ∀ y ∈ G (o.getD j 0), y ≠ 0 → y ∈ o
  from_ : ∀ j, j < o.length → o.getD j 0 ∈ r ∨ ∃ t, t < j ∧ o.getD j 0 ∈ G (o.getD t 0)
  le : i ≤ o.length
theorem inv_start {G : Int → List Int} {V r : List Int} (h : ∀ x ∈ r, x = 0 ∨ x ∈ V) : Inv G V r (addO [] r) 0 :=
  ⟨addO_ord ord_nil r, fun x hx => by
    rcases addO_mem.1 hx with h' | ⟨h1, h2⟩
    · simp at h'
    · exact (h x h1).resolve_left h2, fun x hx hn => addO_mem.2 (.inr ⟨hx, hn⟩), fun j hj => by omega, fun j hj => .inl (by
      have hm : (addO [] r).getD j 0 ∈ addO [] r := by
        rw [List.getD_eq_getElem?_getD, List.getElem?_eq_getElem hj]
        exact List.getElem_mem _
      rcases addO_mem.1 hm with h' | h'
      · simp at h'
      · exact h'.1), Nat.zero_le _⟩
theorem getD_mem {o : List Int} {j : Nat} (hj : j < o.length) : o.getD j 0 ∈ o := by
  rw [List.getD_eq_getElem?_getD, List.getElem?_eq_getElem hj]
  exact List.getElem_mem _
theorem getD_app {o m : List Int} {j : Nat} (hj : j < o.length) : (o ++ m).getD j 0 = o.getD j 0 := by
  rw [List.getD_eq_getElem?_getD, List.getElem?_append_left hj, List.getD_eq_getElem?_getD]
theorem Inv.step {G : Int → List Int} {V r o : List Int} {i : Nat} (h : Inv G V r o i) (hi : i < o.length) (hG : ∀ x ∈ V, ∀ y ∈ G x, y = 0 ∨ y ∈ V) : Inv G V r (addO o (G (o.getD i 0))) (i + 1) := by
  obtain ⟨m, hm⟩ := addO_pre o (G (o.getD i 0))
  have hO := addO_ord h.ord (G (o.getD i 0))
  have hM : ∀ {y}, y ∈ addO o (G (o.getD i 0)) ↔ y ∈ o ∨ (y ∈ G (o.getD i 0) ∧ y ≠ 0) := addO_mem
  have hV := hG _ (h.sub _ (getD_mem hi))
  rw [hm] at hO hM ⊢
  refine ⟨hO, fun x hx => ?_, fun x hx hn => List.mem_append_left _ (h.roots x hx hn), fun j hj y hy hn => ?_, fun j hj => ?_, by simp; omega⟩
  · rcases hM.1 hx with h' | ⟨h1, h2⟩
    · exact h.sub x h'
    · exact (hV x h1).resolve_left h2
  · rw [getD_app (by omega)] at hy
    by_cases e : j = i
    · subst e; exact hM.2 (.inr ⟨hy, hn⟩)
    · exact List.mem_append_left _ (h.shut j (by omega) y hy hn)
  · by_cases e : j < o.length
    · rw [getD_app e]
      refine (h.from_ j e).imp id fun ⟨t, ht, hy⟩ => ⟨t, ht, ?_⟩
      rw [getD_app (by omega)]
      exact hy
    · refine .inr ⟨i, by omega, ?_⟩
      rw [getD_app (m := m) hi]
      have hme : (o ++ m).getD j 0 ∈ m := by
        rw [List.getD_eq_getElem?_getD, List.getElem?_append_right (by omega), List.getElem?_eq_getElem (by simp at hj; omega)]
        exact List.getElem_mem _
      have hno : (o ++ m).getD j 0 ∉ o := fun h' => (List.nodup_append.1 hO.1).2.2 _ h' _ hme rfl
      rcases hM.1 (List.mem_append_right o hme) with h' | h'
      · exact absurd h' hno
      · exact h'.1
theorem Inv.len {G : Int → List Int} {V r o : List Int} {i : Nat} (h : Inv G V r o i) : o.length ≤ V.length := nodup_len h.ord.1 h.sub

/-- All that one comes to. -/
theorem goO_inv {G : Int → List Int} {V r o : List Int} {i n : Nat} (h : Inv G V r o i) (hn : V.length ≤ i + n) (hG : ∀ x ∈ V, ∀ y ∈ G x, y = 0 ∨ y ∈ V) : Inv G V r (goO G n o i) (goO G n o i).length := by
  induction n generalizing o i with
  | zero =>
    have := h.len
    have h1 : i = o.length := by have := h.le; omega
    subst h1
    exact h
  | succ n ih =>
    unfold goO
    by_cases e : i < o.length
    · rw [if_pos e]
      exact ih (h.step e hG) (by omega)
    · rw [if_neg e]
      have h1 : i = o.length := by have := h.le; omega
      subst h1
      exact h
theorem reachO_inv {G : Int → List Int} {V r : List Int} (h : ∀ x ∈ r, x = 0 ∨ x ∈ V) (hG : ∀ x ∈ V, ∀ y ∈ G x, y = 0 ∨ y ∈ V) : Inv G V r (reachO G V.length r) (reachO G V.length r).length :=
  goO_inv (inv_start h) (by omega) hG

/-- From more roots one comes to all that one comes to from fewer. -/
theorem inv_grow {G : Int → List Int} {V r s o p : List Int} (h : Inv G V r o o.length) (g : Inv G V s p p.length) (hs : ∀ x ∈ r, x ∈ s) : ∀ x ∈ o, x ∈ p := by
  have key : ∀ j, j < o.length → o.getD j 0 ∈ p := by
    intro j
    induction j using Nat.strongRecOn with
    | _ j ih =>
      intro hj
      have hn : o.getD j 0 ≠ 0 := fun e => h.ord.2 (by rw [← e]; exact getD_mem hj)
      rcases h.from_ j hj with h' | ⟨t, ht, h'⟩
      · exact g.roots _ (hs _ h') hn
      · have h1 := ih t ht (by omega)
        obtain ⟨k, hk⟩ := Option.isSome_iff_exists.1 (pos_mem.2 h1)
        obtain ⟨hk1, hk2⟩ := pos_at hk
        exact g.shut k hk1 _ (by rw [hk2]; exact h') hn
  intro x hx
  obtain ⟨k, hk⟩ := Option.isSome_iff_exists.1 (pos_mem.2 hx)
  obtain ⟨hk1, hk2⟩ := pos_at hk
  rw [← hk2]
  exact key k hk1

/-- Wherever they lie, in the same order. -/
theorem goO_map {φ : Int → Int} {G H : Int → List Int} {V o : List Int} (n i : Nat) (hs : ∀ x ∈ o, x ∈ V) (hG : ∀ x ∈ V, ∀ y ∈ G x, y = 0 ∨ y ∈ V) (hH : ∀ x ∈ V, H (φ x) = (G x).map φ) (h0 : φ 0 = 0) (hn : ∀ x ∈ V, φ x ≠ 0) (hi : ∀ x ∈ V, ∀ y ∈ V, φ y = φ x → y = x) :
    goO H n (o.map φ) i = (goO G n o i).map φ := by
  induction n generalizing o i with
  | zero => rfl
  | succ n ih =>
    unfold goO
    rw [List.length_map]
    by_cases e : i < o.length
    · rw [if_pos e, if_pos e]
      have e1 : (o.map φ).getD i 0 = φ (o.getD i 0) := by simp [List.getD, e]
      have hv := hs _ (getD_mem e)
      have hz : ∀ x, x = 0 ∨ x ∈ V → (φ x = 0 ↔ x = 0) := fun x hx => ⟨fun e => hx.elim id fun h => absurd e (hn x h), fun e => by rw [e, h0]⟩
      rw [e1, hH _ hv, addO_map (fun x hx => hz x (hG _ hv x hx)) (fun x hx y hy e => ?_)]
      · exact ih (i + 1) fun x hx => by
          rcases addO_mem.1 hx with h | ⟨h, hne⟩
          · exact hs x h
          · exact (hG _ hv x h).resolve_left hne
      · have hx' := hG _ hv x hx
        have hy' : y = 0 ∨ y ∈ V := hy.elim (fun h => .inr (hs y h)) (fun h => hG _ hv y h)
        by_cases ex : x = 0
        · subst ex; rw [h0] at e; exact (hz y hy').1 e
        · by_cases ey : y = 0
          · subst ey; rw [h0] at e; exact ((hz x hx').1 e.symm).symm
          · exact hi x (hx'.resolve_left ex) y (hy'.resolve_left ey) e
    · rw [if_neg e, if_neg e]
theorem reachO_map {φ : Int → Int} {G H : Int → List Int} {V r : List Int} (n : Nat) (hr : ∀ x ∈ r, x = 0 ∨ x ∈ V) (hG : ∀ x ∈ V, ∀ y ∈ G x, y = 0 ∨ y ∈ V) (hH : ∀ x ∈ V, H (φ x) = (G x).map φ) (h0 : φ 0 = 0) (hn : ∀ x ∈ V, φ x ≠ 0) (hi : ∀ x ∈ V, ∀ y ∈ V, φ y = φ x → y = x) :
    reachO H n (r.map φ) = (reachO G n r).map φ := by
  have hz : ∀ x, x = 0 ∨ x ∈ V → (φ x = 0 ↔ x = 0) := fun x hx => ⟨fun e => hx.elim id fun h => absurd e (hn x h), fun e => by rw [e, h0]⟩
  have e : addO [] (r.map φ) = (addO [] r).map φ := by
    refine addO_map (o := []) (fun x hx => hz x (hr x hx)) fun x hx y hy e => ?_
    have hx' := hr x hx
    have hy' : y = 0 ∨ y ∈ V := hy.elim (fun h => by simp at h) (fun h => hr y h)
    by_cases ex : x = 0
    · subst ex; rw [h0] at e; exact (hz y hy').1 e
    · by_cases ey : y = 0
      · subst ey; rw [h0] at e; exact ((hz x hx').1 e.symm).symm
      · exact hi x (hx'.resolve_left ex) y (hy'.resolve_left ey) e
  unfold reachO
  rw [e]
  exact goO_map n 0 (fun x hx => by
    rcases addO_mem.1 hx with h | ⟨h, hne⟩
    · simp at h
    · exact (hr x h).resolve_left hne) hG hH h0 hn hi
/-- Roots told twice, or nothing among them. -/
theorem reachO_again (G : Int → List Int) (n : Nat) (r : List Int) : reachO G n ([0] ++ r ++ [0] ++ r) = reachO G n r := by
  unfold reachO
  have e : addO [] ([0] ++ r ++ [0] ++ r) = addO [] r := by
    rw [addO_app, addO_app, addO_app]
    have e0 : ∀ o, addO o [0] = o := fun o => addO_in fun x hx => .inl (by simpa using hx)
    rw [e0, e0]
    exact addO_in fun x hx => by
      by_cases h : x = 0
      · exact .inl h
      · exact .inr (addO_mem.2 (.inr ⟨hx, h⟩))
  rw [e]
/-- What is told of a place, wherever it lies. -/
theorem rankV_map {φ : Int → Int} {o V : List Int} {x : Int} (hs : ∀ y ∈ o, y ∈ V) (hx : x = 0 ∨ x ∈ V) (h0 : φ 0 = 0) (hn : ∀ x ∈ V, φ x ≠ 0) (hi : ∀ x ∈ V, ∀ y ∈ V, φ y = φ x → y = x) : rankV (o.map φ) (φ x) = rankV o x := by
  unfold rankV
  by_cases e : x = 0
  · rw [if_pos e, if_pos (by rw [e, h0])]
  · have hv := hx.resolve_left e
    rw [if_neg e, if_neg (hn x hv), pos_map fun y hy => hi x hv y (hs y hy)]

end Go.Proofs.Ytceedbkacbaaiaa
