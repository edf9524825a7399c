/- Objects that are copied in any order, and their pointers turned to where they are: how the words stand. Plain; no condition. -/
import Derived.Test.YtceedbkacbaaiaaGraphLaw
namespace Go.Proofs.Ytceedbkacbaaiaa
open Go.ChangeShapes Go.WideShapes Go.ChangeAt Go.RowKit

set_option linter.unusedSimpArgs false
set_option linter.unusedVariables false

/-- How many words those have taken that are copied. -/
def usd (os : Nat → Ob) (np : Nat → Nat) : Nat → Nat
  | 0 => 0
  | k + 1 => usd os np k + if np k = 0 then 0 else Cls.rd (os k).n
theorem usd_le (os : Nat → Ob) (np : Nat → Nat) (m : Nat) : usd os np m ≤ off os m := by
  induction m with
  | zero => exact Nat.le_refl _
  | succ m ih => unfold usd; rw [off_next]; split <;> omega
theorem usd_room {os : Nat → Ob} {np : Nat → Nat} {m k : Nat} (hk : k < m) (h : np k = 0) : usd os np m + Cls.rd (os k).n ≤ off os m := by
  induction m with
  | zero => omega
  | succ m ih =>
    unfold usd
    rw [off_next]
    by_cases e : k = m
    · subst e
      rw [if_pos h]
      have := usd_le os np k
      omega
    · have := ih (by omega)
      split <;> omega
theorem usd_same {os : Nat → Ob} {np nq : Nat → Nat} {m : Nat} (h : ∀ j, j < m → np j = nq j) : usd os np m = usd os nq m := by
  induction m with
  | zero => rfl
  | succ m ih => unfold usd; rw [ih fun j hj => h j (by omega), h m (by omega)]
theorem usd_set {os : Nat → Ob} {np : Nat → Nat} {m k st : Nat} (hk : k < m) (h : np k = 0) (hst : st ≠ 0) : usd os (fun j => if j = k then st else np j) m = usd os np m + Cls.rd (os k).n := by
  induction m with
  | zero => omega
  | succ m ih =>
    unfold usd
    by_cases e : k = m
    · subst e
      rw [usd_same (np := fun j => if j = k then st else np j) (nq := np) fun j hj => if_neg (by omega)]
      rw [if_pos h, if_pos rfl, if_neg hst, Nat.add_zero]
    · rw [ih (by omega)]
      have e2 : (if m = k then st else np m) = np m := if_neg fun e' => e e'.symm
      rw [e2]
      omega

/-- l2 is l1 after those with a new place (np) have been copied, up to st. -/
structure Cpd (l1 l2 : List Int) (os : Nat → Ob) (m : Nat) (np : Nat → Nat) (st : Nat) : Prop where
  len : l2.length = l1.length
  zero : l2.getD 0 0 = l1.getD 0 0
  top : st = 200 + usd os np m
  old : ∀ k, k < m → np k = 0 → ∀ t, t < (os k).n → l2.getD (1 + off os k + t) 0 = l1.getD (1 + off os k + t) 0
  gone : ∀ k, k < m → np k ≠ 0 → l2.getD (1 + off os k) 0 = ((2 + np k * 4 : Nat) : Int)
  new : ∀ k, k < m → np k ≠ 0 → 200 ≤ np k ∧ np k + (os k).n ≤ st ∧ ∀ t, t < (os k).n → l2.getD (np k + t) 0 = l1.getD (1 + off os k + t) 0
  apart : ∀ j k, j < m → k < m → j ≠ k → np j ≠ 0 → np k ≠ 0 → np j + (os j).n ≤ np k ∨ np k + (os k).n ≤ np j
theorem cpd_start (l : List Int) (os : Nat → Ob) (m : Nat) : Cpd l l os m (fun _ => 0) 200 := by
  have h : ∀ m, usd os (fun _ => 0) m = 0 := fun m => by
    induction m with
    | zero => rfl
    | succ m ih => unfold usd; rw [ih, if_pos rfl]
  exact ⟨rfl, rfl, by rw [h], fun _ _ _ _ _ => rfl, fun _ _ h => absurd rfl h, fun _ _ h => absurd rfl h, fun _ _ _ _ _ h => absurd rfl h⟩
section
variable {l1 l2 : List Int} {os : Nat → Ob} {m st : Nat} {np : Nat → Nat}
theorem Cpd.obj (h : Cpd l1 l2 os m np st) (ho : ObsAt l1 1 os m) {k : Nat} (hk : k < m) (hn : np k = 0) : ObjIs l2 (1 + off os k) (os k).p (os k).d (os k).wk (os k).fn (os k).fr :=
  (ho k hk).same h.len (h.old k hk hn 0 (by unfold Ob.n; omega))
theorem Cpd.step (h : Cpd l1 l2 os m np st) (ho : ObsAt l1 1 os m) (hoff : off os m ≤ 150) (hl : l1.length = 400) {k : Nat} (hk : k < m) (hn : np k = 0) :
    Cpd l1 (copyL l2 (1 + off os k) st (os k).n) os m (fun j => if j = k then st else np j) (st + Cls.rd (os k).n) := by
  have hst := h.top
  have hroom := usd_room (os := os) hk hn
  have hOk := ho k hk
  have hnk := Ob.n_le hOk.ptrs hOk.data
  have hrd : (os k).n ≤ Cls.rd (os k).n := Cls.rd_ge (by omega)
  have hlen := h.len
  have hom : ∀ j, j < m → 1 + off os j + (os j).n ≤ 151 := fun j hj => by
    have h1 := off_mono os (show j + 1 ≤ m from hj)
    rw [off_next] at h1
    have hOj := ho j hj
    have hnj := Ob.n_le hOj.ptrs hOj.data
    have := Cls.rd_ge (m := (os j).n) (by omega)
    omega
  have hk1 := hom k hk
  have key : ∀ c, c < 400 → (copyL l2 (1 + off os k) st (os k).n).getD c 0 = if c = 1 + off os k then ((2 + st * 4 : Nat) : Int) else if st ≤ c ∧ c < st + (os k).n then l2.getD (1 + off os k + (c - st)) 0 else l2.getD c 0 := fun c hc => copyL_at (by omega)
  have far : ∀ j t, j < m → j ≠ k → t < (os j).n → 1 + off os j + t ≠ 1 + off os k := fun j t hj hne ht => by
    by_cases e : j < k
    · have hOj := ho j hj
      have := off_room e hOj.ptrs hOj.data
      omega
    · have := off_lt os (show k < j by omega)
      omega
  refine ⟨by rw [copyL_length, h.len], ?_, by rw [usd_set hk hn (by omega)]; omega, fun j hj hj0 t ht => ?_, fun j hj hj0 => ?_, fun j hj hj0 => ?_, fun j i hj hi hne hj0 hi0 => ?_⟩
  · rw [key 0 (by omega), if_neg (by omega), if_neg (by omega), h.zero]
  · try dsimp only at hj0
    by_cases e : j = k
    · rw [if_pos e] at hj0; omega
    · rw [if_neg e] at hj0
      have := hom j hj
      rw [key _ (by omega), if_neg (far j t hj e ht), if_neg (by omega)]
      exact h.old j hj hj0 t ht
  · try dsimp only at hj0 ⊢
    by_cases e : j = k
    · subst e
      rw [if_pos rfl, key _ (by omega), if_pos rfl]
    · rw [if_neg e] at hj0 ⊢
      have := hom j hj
      have hf := far j 0 hj e (by have hOj := ho j hj; have := (Ob.n_le hOj.ptrs hOj.data).1; omega)
      rw [key _ (by omega), if_neg (by omega), if_neg (by omega)]
      exact h.gone j hj hj0
  · try dsimp only at hj0 ⊢
    by_cases e : j = k
    · subst e
      rw [if_pos rfl]
      refine ⟨by omega, by omega, fun t ht => ?_⟩
      rw [key _ (by omega), if_neg (by omega), if_pos (by omega), show st + t - st = t from by omega]
      exact h.old j hj hn t ht
    · rw [if_neg e] at hj0 ⊢
      obtain ⟨h1, h2, h3⟩ := h.new j hj hj0
      refine ⟨h1, by omega, fun t ht => ?_⟩
      rw [key _ (by omega), if_neg (by omega), if_neg (by omega)]
      exact h3 t ht
  · try dsimp only at hj0 hi0 ⊢
    by_cases e : j = k
    · subst e
      have e1 : (if i = j then st else np i) = np i := if_neg fun e' => hne e'.symm
      have e2 : (if j = j then st else np j) = st := if_pos rfl
      rw [e1] at hi0
      rw [e1, e2]
      have := (h.new i hi hi0).2.1
      omega
    · rw [if_neg e] at hj0 ⊢
      by_cases e2 : i = k
      · subst e2
        rw [if_pos rfl]
        have := (h.new j hj hj0).2.1
        omega
      · rw [if_neg e2] at hi0 ⊢
        exact h.apart j i hj hi hne hj0 hi0
theorem Cpd.room (h : Cpd l1 l2 os m np st) (hoff : off os m ≤ 150) : 200 ≤ st ∧ st ≤ 350 := by
  have := h.top
  have := usd_le os np m
  omega
theorem Cpd.more (h : Cpd l1 l2 os m np st) (hoff : off os m ≤ 150) {k : Nat} (hk : k < m) (hn : np k = 0) : st + Cls.rd (os k).n ≤ 350 := by
  have := h.top
  have := usd_room (os := os) hk hn
  omega
end

/-- Where what was at a place is now. -/
def phi (l3 : List Int) (x : Int) : Int := if x = 0 then 0 else (l3.getD x.toNat 0 - 2) / 4
theorem phi_zero (l3 : List Int) : phi l3 0 = 0 := rfl
/-- All have been copied. -/
structure All (l1 l3 : List Int) (os : Nat → Ob) (m : Nat) (np : Nat → Nat) (st : Nat) : Prop where
  cpd : Cpd l1 l3 os m np st
  all : ∀ k, k < m → np k ≠ 0
  obs : ObsAt l1 1 os m
  off_ : off os m ≤ 150
  len : l1.length = 400
section
variable {l1 l3 l4 : List Int} {os : Nat → Ob} {m st i k : Nat} {np : Nat → Nat}
theorem All.phi_at (h : All l1 l3 os m np st) {k : Nat} (hk : k < m) : phi l3 ((1 + off os k : Nat) : Int) = (np k : Int) := by
  unfold phi
  rw [if_neg (by omega), Int.toNat_natCast, h.cpd.gone k hk (h.all k hk)]
  omega
theorem All.place (h : All l1 l3 os m np st) {k : Nat} (hk : k < m) : 200 ≤ np k ∧ np k + (os k).n ≤ 350 := by
  have h1 := h.cpd.new k hk (h.all k hk)
  have h2 := h.cpd.room h.off_
  omega
theorem All.inj (h : All l1 l3 os m np st) {j k : Nat} (hj : j < m) (hk : k < m) (e : np j = np k) : j = k := by
  refine Classical.byContradiction fun hne => ?_
  have h1 := h.cpd.apart j k hj hk hne (h.all j hj) (h.all k hk)
  have h2 := (Ob.n_le (h.obs j hj).ptrs (h.obs j hj).data).1
  have h3 := (Ob.n_le (h.obs k hk).ptrs (h.obs k hk).data).1
  omega

/-- The pointers of those ahead of (i, k) have been turned. -/
structure Trn (l1 l3 l4 : List Int) (os : Nat → Ob) (m : Nat) (np : Nat → Nat) (i k : Nat) : Prop where
  len : l4.length = l3.length
  low : ∀ c, c < 200 → l4.getD c 0 = l3.getD c 0
  rest : ∀ j t, j < m → t < (os j).n → l4.getD (np j + t) 0 = if 3 ≤ t ∧ t < 3 + (os j).p ∧ (j < i ∨ (j = i ∧ t < 3 + k)) then phi l3 (l1.getD (1 + off os j + t) 0) else l1.getD (1 + off os j + t) 0
theorem trn_start (h : All l1 l3 os m np st) : Trn l1 l3 l3 os m np 0 0 :=
  ⟨rfl, fun _ _ => rfl, fun j t hj ht => by rw [if_neg (by omega)]; exact (h.cpd.new j hj (h.all j hj)).2.2 t ht⟩
theorem Trn.obj (h : All l1 l3 os m np st) (g : Trn l1 l3 l4 os m np i k) {j : Nat} (hj : j < m) : ObjIs l4 (np j) (os j).p (os j).d (os j).wk (os j).fn (os j).fr := by
  have ho := h.obs j hj
  have hp := h.place hj
  have e : 3 + (os j).p + (os j).d = (os j).n := rfl
  refine ⟨ho.right, ho.ptrs, ho.data, ?_, ?_⟩
  · rw [g.len, h.cpd.len, h.len]; omega
  · have := g.rest j 0 hj (by omega)
    rw [if_neg (by omega)] at this
    exact this.trans ho.head
theorem Trn.step (h : All l1 l3 os m np st) (g : Trn l1 l3 l4 os m np i k) (hi : i < m) (hk : k < (os i).p) {v : Nat} (hv : (v : Int) = phi l3 (l1.getD (1 + off os i + (3 + k)) 0)) :
    Trn l1 l3 (l4.set (np i + (3 + k)) v) os m np i (k + 1) := by
  have hp := h.place hi
  have e : 3 + (os i).p + (os i).d = (os i).n := rfl
  have hlen : l4.length = 400 := by rw [g.len, h.cpd.len, h.len]
  refine ⟨by rw [List.length_set]; exact g.len, fun c hc => ?_, fun j t hj ht => ?_⟩
  · rw [set_at' (by omega), if_neg (by omega)]
    exact g.low c hc
  · have hpj := h.place hj
    rw [set_at' (by omega), g.rest j t hj ht]
    by_cases e1 : j = i
    · subst e1
      by_cases e2 : t = 3 + k
      · subst e2
        rw [if_pos rfl, if_pos (by omega), hv]
      · rw [if_neg (by omega)]
        by_cases e3 : 3 ≤ t ∧ t < 3 + (os j).p ∧ t < 3 + k
        · rw [if_pos (by omega), if_pos (by omega)]
        · rw [if_neg (by omega), if_neg (by omega)]
    · have ha := h.cpd.apart j i hj hi e1 (h.all j hj) (h.all i hi)
      rw [if_neg (by omega)]
      by_cases e3 : 3 ≤ t ∧ t < 3 + (os j).p ∧ j < i
      · rw [if_pos (by omega), if_pos (by omega)]
      · rw [if_neg (by omega), if_neg (by omega)]
theorem Trn.next (h : All l1 l3 os m np st) (g : Trn l1 l3 l4 os m np i (os i).p) : Trn l1 l3 l4 os m np (i + 1) 0 :=
  ⟨g.len, g.low, fun j t hj ht => by
    rw [g.rest j t hj ht]
    by_cases e1 : j = i
    · subst e1
      by_cases e3 : 3 ≤ t ∧ t < 3 + (os j).p
      · rw [if_pos (by omega), if_pos (by omega)]
      · rw [if_neg (by omega), if_neg (by omega)]
    · by_cases e3 : 3 ≤ t ∧ t < 3 + (os j).p ∧ j < i
      · rw [if_pos (by omega), if_pos (by omega)]
      · rw [if_neg (by omega), if_neg (by omega)]⟩
/-- A pointer that is still to be turned. -/
theorem Trn.ptr (g : Trn l1 l3 l4 os m np i k) (hi : i < m) (hk : k < (os i).p) : l4.getD (np i + (3 + k)) 0 = l1.getD (1 + off os i + (3 + k)) 0 := by
  rw [g.rest i (3 + k) hi (by unfold Ob.n; omega), if_neg (by omega)]

theorem ptrL_turned (h : All l1 l3 os m np st) (g : Trn l1 l3 l4 os m np m 0) {j c : Nat} (hj : j < m) (hc : c ≤ (os j).p) : ptrL l4 (np j) c = (ptrL l1 (1 + off os j) c).map (phi l3) := by
  unfold ptrL
  rw [List.map_map]
  refine List.map_congr_left fun i hi => ?_
  have hi := List.mem_range.1 hi
  rw [g.rest j (3 + i) hj (by unfold Ob.n; omega), if_pos (by omega)]
  rfl
theorem numL_turned (g : Trn l1 l3 l4 os m np m 0) {j : Nat} (hj : j < m) : numL l4 (np j) (os j).p (os j).d = numL l1 (1 + off os j) (os j).p (os j).d := by
  unfold numL
  refine List.map_congr_left fun i hi => ?_
  have hi := List.mem_range.1 hi
  rw [g.rest j (3 + (os j).p + i) hj (by unfold Ob.n; omega), if_neg (by omega)]
theorem gOf_turned (h : All l1 l3 os m np st) (g : Trn l1 l3 l4 os m np m 0) : ∀ x ∈ plZ os 1 m, gOf l4 (phi l3 x) = (gOf l1 x).map (phi l3) := fun x hx => by
  obtain ⟨j, hj, rfl⟩ := mem_plZ.1 hx
  rw [h.phi_at hj, gOf_obj (g.obj h hj), gOf_obj (h.obs j hj)]
  exact ptrL_turned h g hj (by split <;> omega)
theorem nOf_turned (h : All l1 l3 os m np st) (g : Trn l1 l3 l4 os m np m 0) : ∀ x ∈ plZ os 1 m, nOf l4 (phi l3 x) = { nOf l1 x with ptrs := (nOf l1 x).ptrs.map (phi l3) } := fun x hx => by
  obtain ⟨j, hj, rfl⟩ := mem_plZ.1 hx
  have hs := g.rest j 2 hj (by unfold Ob.n; omega)
  rw [if_neg (by omega)] at hs
  rw [h.phi_at hj, nOf_obj (g.obj h hj), nOf_obj (h.obs j hj), ptrL_turned h g hj (Nat.le_refl _), numL_turned g hj, hs]
theorem phi_ne (h : All l1 l3 os m np st) : ∀ x ∈ plZ os 1 m, phi l3 x ≠ 0 := fun x hx => by
  obtain ⟨j, hj, rfl⟩ := mem_plZ.1 hx
  rw [h.phi_at hj]
  have := h.place hj
  omega
theorem phi_inj (h : All l1 l3 os m np st) : ∀ x ∈ plZ os 1 m, ∀ y ∈ plZ os 1 m, phi l3 y = phi l3 x → y = x := fun x hx y hy e => by
  obtain ⟨j, hj, rfl⟩ := mem_plZ.1 hx
  obtain ⟨k, hk, rfl⟩ := mem_plZ.1 hy
  rw [h.phi_at hj, h.phi_at hk] at e
  have := h.inj hk hj (by omega)
  rw [this]
theorem objV_turned (h : All l1 l3 os m np st) (g : Trn l1 l3 l4 os m np m 0) (hV : ObjV l1 (plZ os 1 m)) : ObjV l4 ((plZ os 1 m).map (phi l3)) := by
  refine ⟨fun y hy => ?_, by rw [List.length_map]; exact hV.len⟩
  obtain ⟨x, hx, rfl⟩ := List.mem_map.1 hy
  obtain ⟨j, hj, rfl⟩ := mem_plZ.1 hx
  have hp := h.place hj
  obtain ⟨a, p, d, wk, fn, fr, ea, h0, ho, hs, hpt⟩ := hV.obj _ hx
  obtain rfl : a = 1 + off os j := by omega
  have hO := g.obj h hj
  have hs2 := g.rest j 2 hj (by unfold Ob.n; omega)
  rw [if_neg (by omega)] at hs2
  refine ⟨np j, _, _, _, _, _, h.phi_at hj, by omega, hO, by rw [hs2]; exact hs, fun i hi => ?_⟩
  have hr := g.rest j (3 + i) hj (by unfold Ob.n; omega)
  rw [if_pos (by omega)] at hr
  rw [hr]
  have hpp : (os j).p = p := by
    have e1 := nOf_obj ho
    have e2 := nOf_obj (h.obs j hj)
    rw [e1] at e2
    injection e2 with _ e2
    exact e2.symm
  rcases hpt i (by omega) with e | e
  · left; rw [show 1 + off os j + (3 + i) = 1 + off os j + (3 + i) from rfl, e]; rfl
  · right; exact List.mem_map.2 ⟨_, e, rfl⟩
end

end Go.Proofs.Ytceedbkacbaaiaa
