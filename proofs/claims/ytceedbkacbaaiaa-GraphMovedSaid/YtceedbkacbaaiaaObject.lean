/- Package object: Serial, Second, Ptr, Num, SetPtr, SetNum, SetFreed, SetSecond at a place where there is an object, and Make, are as the document says. Condition: there is an object (ObjIs); of Make: its shape is right. -/
import Derived.Test.YtceedbkacbaaiaaObjFind
namespace Go.Proofs.Ytceedbkacbaaiaa
open Go.ChangeShapes Go.WideShapes Go.ChangeAt Go.RowKit

set_option linter.unusedSimpArgs false
set_option linter.unusedVariables false

/-! ### What makes the closures -/
theorem ahead_any (n : Int) (w : World) : Calls Try.prog 60 #[.int .i64 n] w fun e w' => ∃ q, e = .returned (.func (.func 78) #[] #[.pointer (some ⟨q, 0, none⟩)]) ∧ w'.cell? ⟨q, 0, none⟩ = some (.int .i64 n) ∧ q < w'.heap.size ∧ Below w.heap.size w w' := by
  go_enter Try.func60, Try.ntmps60
  go_wp2
  go_ret
  exact ⟨_, rfl, by simp, by simp, (Below.refl _ w).alloc (Nat.le_refl _) _⟩
theorem ptr_any (n : Int) (w : World) : Calls Try.prog 46 #[.int .i64 n] w fun e w' => ∃ q, e = .returned (.func (.func 71) #[] #[.pointer (some ⟨q, 0, none⟩)]) ∧ w'.cell? ⟨q, 0, none⟩ = some (.int .i64 n) ∧ q < w'.heap.size ∧ Below w.heap.size w w' := by
  go_enter Try.func46, Try.ntmps46
  go_wp2
  go_ret
  exact ⟨_, rfl, by simp, by simp, (Below.refl _ w).alloc (Nat.le_refl _) _⟩
theorem num_any (n : Int) (w : World) : Calls Try.prog 57 #[.int .i64 n] w fun e w' => ∃ q, e = .returned (.func (.func 76) #[] #[.pointer (some ⟨q, 0, none⟩)]) ∧ w'.cell? ⟨q, 0, none⟩ = some (.int .i64 n) ∧ q < w'.heap.size ∧ Below w.heap.size w w' := by
  go_enter Try.func57, Try.ntmps57
  go_wp2
  go_ret
  exact ⟨_, rfl, by simp, by simp, (Below.refl _ w).alloc (Nat.le_refl _) _⟩
theorem become_any (n : Int) (w : World) : Calls Try.prog 58 #[.int .u64 n] w fun e w' => ∃ q, e = .returned (.func (.func 77) #[] #[.pointer (some ⟨q, 0, none⟩)]) ∧ w'.cell? ⟨q, 0, none⟩ = some (.int .u64 n) ∧ q < w'.heap.size ∧ Below w.heap.size w w' := by
  go_enter Try.func58, Try.ntmps58
  go_wp2
  go_ret
  exact ⟨_, rfl, by simp, by simp, (Below.refl _ w).alloc (Nat.le_refl _) _⟩

section
variable {p d : Nat} {wk fn : Bool} {q : Nat} {x : World}
theorem ahead_picks (p d : Nat) (wk fn : Bool) (n : Nat) (hc : x.cell? ⟨q, 0, none⟩ = some (.int .i64 n)) (hq : q < x.heap.size) : Picks 78 q p d wk fn n true x :=
  ⟨.inl rfl, fun y hy => (ahead_in p d wk fn q y n ((hy.cell (p := ⟨q, 0, none⟩) hq).trans hc) (Nat.lt_of_lt_of_le hq hy.size)).mono fun e z ⟨h, hb⟩ => ⟨_, h, fun _ => rfl, hb⟩⟩
theorem ptr_picks (i : Int) (i0 : -9223372036854775808 ≤ i) (i1 : i ≤ 9223372036854775807) (wk fn : Bool) (hp : p ≤ 8) (hd : d ≤ 8) (hc : x.cell? ⟨q, 0, none⟩ = some (.int .i64 i)) (hq : q < x.heap.size) :
    Picks 71 q p d wk fn (3 + i.toNat) (decide (0 ≤ i ∧ i < p)) x :=
  ⟨.inr (.inl rfl), fun y hy => ptr_in p d wk fn q y i i0 i1 hp ((hy.cell (p := ⟨q, 0, none⟩) hq).trans hc) (Nat.lt_of_lt_of_le hq hy.size)⟩
theorem num_picks (i : Int) (i0 : -9223372036854775808 ≤ i) (i1 : i ≤ 9223372036854775807) (wk fn : Bool) (hp : p ≤ 8) (hd : d ≤ 8) (hc : x.cell? ⟨q, 0, none⟩ = some (.int .i64 i)) (hq : q < x.heap.size) :
    Picks 76 q p d wk fn (3 + p + i.toNat) (decide (0 ≤ i ∧ i < d)) x :=
  ⟨.inr (.inr rfl), fun y hy => num_in p d wk fn q y i i0 i1 hp hd ((hy.cell (p := ⟨q, 0, none⟩) hq).trans hc) (Nat.lt_of_lt_of_le hq hy.size)⟩
theorem become_makes (u v : Int) (hc : x.cell? ⟨q, 0, none⟩ = some (.int .u64 v)) (hq : q < x.heap.size) : Makes 77 q u v x :=
  ⟨.inr (.inl rfl), fun y hy => become_in q y u v ((hy.cell (p := ⟨q, 0, none⟩) hq).trans hc) (Nat.lt_of_lt_of_le hq hy.size)⟩
theorem setPtr_makes (u : Int) (v : Nat) (hv : v ≤ 131072) (hc : x.cell? ⟨q, 0, none⟩ = some (.int .i64 v)) (hq : q < x.heap.size) : Makes 48 q u v x :=
  ⟨.inl rfl, fun y hy => setPtr_in q y u v hv ((hy.cell (p := ⟨q, 0, none⟩) hq).trans hc) (Nat.lt_of_lt_of_le hq hy.size)⟩
theorem setFreed_makes {fr : Bool} (to : Bool) (h : shB p d wk fn = true) (hp : p ≤ 8) (hd : d ≤ 8) (hc : x.cell? ⟨q, 0, none⟩ = some (.bool to)) (hq : q < x.heap.size) :
    Makes 61 q (headN p d wk fn fr : Nat) (headN p d wk fn to : Nat) x :=
  ⟨.inr (.inr rfl), fun y hy => setFreed_in q y to h hp hd ((hy.cell (p := ⟨q, 0, none⟩) hq).trans hc) (Nat.lt_of_lt_of_le hq hy.size)⟩
end

theorem zigOf_bounds {n : Int} (h0 : -9223372036854775808 ≤ n) (h1 : n ≤ 9223372036854775807) : 0 ≤ zigOf n ∧ zigOf n ≤ 18446744073709551615 := by
  unfold zigOf; split <;> omega
theorem zag_zigOf (n : Int) : zagOf (zigOf n) = n := by
  unfold zigOf
  split
  · unfold zagOf; split <;> omega
  · unfold zagOf; split <;> omega

section
variable {P b : Nat} {l : List Int} {p d : Nat} {wk fn fr : Bool}

/-! ### What is told -/

theorem serial_at (a : Nat) (w : World) (h : ArenaAt 65 w P b l) (o : ObjIs l a p d wk fn fr) (hs : 0 ≤ l.getD (a + 2) 0 ∧ l.getD (a + 2) 0 ≤ 9223372036854775807) :
    Calls Try.prog 63 #[.pointer (some ⟨P, 0, none⟩), .int .i64 a] w fun e w' => e = .returned (.tuple #[.int .i64 (l.getD (a + 2) 0), .int .i64 0]) ∧ Below w.heap.size w w' := by
  have hlt := h.lt
  obtain ⟨v, hX⟩ : ∃ x, l.getD (a + 2) 0 = x := ⟨_, rfl⟩
  rw [hX] at hs ⊢
  have g : IntKind.i64.wrap v = v := IntWalk.i64_in _ (by omega)
  go_enter Try.func63, Try.ntmps63
  go_wp2_with fail
  refine (ahead_any 2 _).mono ?_
  rintro e x ⟨q, rfl, hc, hq, hb⟩
  have HL := obj_load a 2 _ q x (h.below hb hlt.1 hlt.2) o (ahead_picks p d wk fn 2 hc hq) (by omega)
  rw [hX] at HL
  clear hX
  clear h o hc
  go_wp2_with fail
  refine HL.mono ?_
  rintro e y ⟨rfl, hb2⟩
  go_wp2
  go_ret2
  exact ⟨rfl, hb.trans (hb2.mono hb.size)⟩

theorem ptr_at (a i : Nat) (w : World) (h : ArenaAt 65 w P b l) (o : ObjIs l a p d wk fn fr) (hi : i < p) (hs : 0 ≤ l.getD (a + (3 + i)) 0 ∧ l.getD (a + (3 + i)) 0 ≤ 9223372036854775807) :
    Calls Try.prog 20 #[.pointer (some ⟨P, 0, none⟩), .int .i64 a, .int .i64 i] w fun e w' => e = .returned (.tuple #[.int .i64 (l.getD (a + (3 + i)) 0), .int .i64 0]) ∧ Below w.heap.size w w' := by
  have hlt := h.lt
  obtain ⟨v, hX⟩ : ∃ x, l.getD (a + (3 + i)) 0 = x := ⟨_, rfl⟩
  rw [hX] at hs ⊢
  have g : IntKind.i64.wrap v = v := IntWalk.i64_in _ (by omega)
  go_enter Try.func20, Try.ntmps20
  go_wp2_with fail
  refine (ptr_any i _).mono ?_
  rintro e x ⟨q, rfl, hc, hq, hb⟩
  have hk := ptr_picks (i : Int) (by have := o.ptrs; omega) (by have := o.ptrs; omega) wk fn o.ptrs o.data hc hq
  rw [decide_eq_true (by omega : 0 ≤ (i : Int) ∧ (i : Int) < p), Int.toNat_natCast] at hk
  have HL := obj_load a (3 + i) _ q x (h.below hb hlt.1 hlt.2) o hk (by omega)
  rw [hX] at HL
  clear hX
  clear h o hc hk
  go_wp2_with fail
  refine HL.mono ?_
  rintro e y ⟨rfl, hb2⟩
  go_wp2
  go_ret2
  exact ⟨rfl, hb.trans (hb2.mono hb.size)⟩

theorem ptr_no (a : Nat) (i : Int) (w : World) (h : ArenaAt 65 w P b l) (o : ObjIs l a p d wk fn fr) (i0 : -9223372036854775808 ≤ i) (i1 : i ≤ 9223372036854775807) (hi : ¬ (0 ≤ i ∧ i < p)) :
    Calls Try.prog 20 #[.pointer (some ⟨P, 0, none⟩), .int .i64 a, .int .i64 i] w fun e w' => e = .returned (.tuple #[.int .i64 0, .int .i64 71]) ∧ Below w.heap.size w w' := by
  have hlt := h.lt
  go_enter Try.func20, Try.ntmps20
  go_wp2_with fail
  refine (ptr_any i _).mono ?_
  rintro e x ⟨q, rfl, hc, hq, hb⟩
  have hk := ptr_picks i i0 i1 wk fn o.ptrs o.data hc hq
  rw [decide_eq_false hi] at hk
  have HL := obj_load_no a _ q _ x (h.below hb hlt.1 hlt.2) o hk
  clear h o hc hk
  go_wp2_with fail
  refine HL.mono ?_
  rintro e y ⟨rfl, hb2⟩
  go_wp2
  go_ret2
  exact ⟨rfl, hb.trans (hb2.mono hb.size)⟩

theorem num_at (a i : Nat) (n : Int) (w : World) (h : ArenaAt 65 w P b l) (o : ObjIs l a p d wk fn fr) (hi : i < d) (n0 : -9223372036854775808 ≤ n) (n1 : n ≤ 9223372036854775807) (hn : l.getD (a + (3 + p + i)) 0 = zigOf n) :
    Calls Try.prog 64 #[.pointer (some ⟨P, 0, none⟩), .int .i64 a, .int .i64 i] w fun e w' => e = .returned (.tuple #[.int .i64 n, .int .i64 0]) ∧ Below w.heap.size w w' := by
  have hlt := h.lt
  have hz := zigOf_bounds n0 n1
  have HZ := fun w => zag_any (zigOf n) w hz.1 hz.2
  rw [zag_zigOf] at HZ
  go_enter Try.func64, Try.ntmps64
  go_wp2_with fail
  refine (num_any i _).mono ?_
  rintro e x ⟨q, rfl, hc, hq, hb⟩
  have hk := num_picks (i : Int) (by have := o.data; omega) (by have := o.data; omega) wk fn o.ptrs o.data hc hq
  rw [decide_eq_true (by omega : 0 ≤ (i : Int) ∧ (i : Int) < d), Int.toNat_natCast] at hk
  have HL := obj_load a (3 + p + i) _ q x (h.below hb hlt.1 hlt.2) o hk (by omega)
  rw [hn] at HL
  generalize zigOf n = v at *
  clear h o hc hk hn
  go_wp2_with fail
  refine HL.mono ?_
  rintro e y ⟨rfl, hb2⟩
  go_wp2_with fail
  refine (HZ _).mono ?_
  rintro e y ⟨rfl, rfl⟩
  go_wp2
  go_ret2
  exact ⟨rfl, hb.trans (hb2.mono hb.size)⟩

theorem num_no (a : Nat) (i : Int) (w : World) (h : ArenaAt 65 w P b l) (o : ObjIs l a p d wk fn fr) (i0 : -9223372036854775808 ≤ i) (i1 : i ≤ 9223372036854775807) (hi : ¬ (0 ≤ i ∧ i < d)) :
    Calls Try.prog 64 #[.pointer (some ⟨P, 0, none⟩), .int .i64 a, .int .i64 i] w fun e w' => e = .returned (.tuple #[.int .i64 0, .int .i64 71]) ∧ Below w.heap.size w w' := by
  have hlt := h.lt
  have HZ : ∀ w, Calls Try.prog 79 #[.int .u64 0] w fun e w' => e = .returned (.int .i64 0) ∧ w = w' := fun w => zag_any 0 w (by decide) (by decide)
  go_enter Try.func64, Try.ntmps64
  go_wp2_with fail
  refine (num_any i _).mono ?_
  rintro e x ⟨q, rfl, hc, hq, hb⟩
  have hk := num_picks i i0 i1 wk fn o.ptrs o.data hc hq
  rw [decide_eq_false hi] at hk
  have HL := obj_load_no a _ q _ x (h.below hb hlt.1 hlt.2) o hk
  clear h o hc hk
  go_wp2_with fail
  refine HL.mono ?_
  rintro e y ⟨rfl, hb2⟩
  go_wp2_with fail
  refine (HZ _).mono ?_
  rintro e y ⟨rfl, rfl⟩
  go_wp2
  go_ret2
  exact ⟨rfl, hb.trans (hb2.mono hb.size)⟩

/-! ### What is set -/
theorem setPtr_at (a i v : Nat) (w : World) (h : ArenaAt 65 w P b l) (o : ObjIs l a p d wk fn fr) (hi : i < p) (hv : v ≤ 131072) :
    Calls Try.prog 21 #[.pointer (some ⟨P, 0, none⟩), .int .i64 a, .int .i64 i, .int .i64 v] w fun e w' => e = .returned (.int .i64 0) ∧ ArenaAt 65 w' P b (l.set (a + (3 + i)) v) ∧ Chg (· = b) w w' := by
  have hlt := h.lt
  obtain ⟨l', hX⟩ : ∃ x, l.set (a + (3 + i)) (v : Int) = x := ⟨_, rfl⟩
  rw [hX]
  go_enter Try.func21, Try.ntmps21
  go_wp2_with fail
  have hV : (w.alloc (.cells #[.int .i64 v] 3)).cell? ⟨w.heap.size, 0, none⟩ = some (.int .i64 v) := by simp
  have hB := (Below.refl _ w).alloc (Nat.le_refl _) (.cells #[.int .i64 v] 3)
  have hQ : w.heap.size < (w.alloc (.cells #[.int .i64 v] 3)).heap.size := by simp
  refine (ptr_any i _).mono ?_
  rintro e x ⟨q, rfl, hc, hq, hb⟩
  replace hV := (hb.cell (p := ⟨_, 0, none⟩) hQ).trans hV
  replace hQ := Nat.lt_of_lt_of_le hQ hb.size
  replace hB := hB.trans (hb.mono hB.size)
  have hk := ptr_picks (i : Int) (by have := o.ptrs; omega) (by have := o.ptrs; omega) wk fn o.ptrs o.data hc hq
  rw [decide_eq_true (by omega : 0 ≤ (i : Int) ∧ (i : Int) < p), Int.toNat_natCast] at hk
  have HL := change_yes a (3 + i) _ q _ _ v x (h.below hB hlt.1 hlt.2) o hk (by omega) (setPtr_makes _ v hv hV hQ) (by omega)
  rw [hX] at HL
  clear hX
  clear h o hc hk hV hb
  go_wp2_with fail
  refine HL.mono ?_
  rintro e y ⟨rfl, ha, hc⟩
  go_wp2
  go_ret
  exact ⟨rfl, ha, (Chg.of_below hB (Nat.le_refl _)).trans hc⟩

theorem setPtr_no (a : Nat) (i v : Int) (w : World) (h : ArenaAt 65 w P b l) (o : ObjIs l a p d wk fn fr) (i0 : -9223372036854775808 ≤ i) (i1 : i ≤ 9223372036854775807) (hi : ¬ (0 ≤ i ∧ i < p)) :
    Calls Try.prog 21 #[.pointer (some ⟨P, 0, none⟩), .int .i64 a, .int .i64 i, .int .i64 v] w fun e w' => e = .returned (.int .i64 71) ∧ Below w.heap.size w w' := by
  have hlt := h.lt
  go_enter Try.func21, Try.ntmps21
  go_wp2_with fail
  have hB := (Below.refl _ w).alloc (Nat.le_refl _) (.cells #[.int .i64 v] 3)
  refine (ptr_any i _).mono ?_
  rintro e x ⟨q, rfl, hc, hq, hb⟩
  replace hB := hB.trans (hb.mono hB.size)
  have hk := ptr_picks i i0 i1 wk fn o.ptrs o.data hc hq
  rw [decide_eq_false hi] at hk
  have HL := fun m r => change_no a _ q m r _ x (h.below hB hlt.1 hlt.2) o hk
  clear h o hc hk hb
  go_wp2_with fail
  refine (HL _ _).mono ?_
  rintro e y ⟨rfl, hb2⟩
  go_wp2
  go_ret
  exact ⟨rfl, hB.trans (hb2.mono hB.size)⟩

theorem setNum_at (a i : Nat) (n : Int) (w : World) (h : ArenaAt 65 w P b l) (o : ObjIs l a p d wk fn fr) (hi : i < d) (n0 : -9223372036854775808 ≤ n) (n1 : n ≤ 9223372036854775807) :
    Calls Try.prog 28 #[.pointer (some ⟨P, 0, none⟩), .int .i64 a, .int .i64 i, .int .i64 n] w fun e w' => e = .returned (.int .i64 0) ∧ ArenaAt 65 w' P b (l.set (a + (3 + p + i)) (zigOf n)) ∧ Chg (· = b) w w' := by
  have hlt := h.lt
  have hz := zigOf_bounds n0 n1
  have HZ := fun w => zig_any n w n0 n1
  generalize zigOf n = u at *
  obtain ⟨l', hX⟩ : ∃ x, l.set (a + (3 + p + i)) u = x := ⟨_, rfl⟩
  rw [hX]
  go_enter Try.func28, Try.ntmps28
  go_wp2_with fail
  refine (num_any i _).mono ?_
  rintro e x ⟨q, rfl, hc, hq, hB⟩
  have hk := num_picks (i : Int) (by have := o.data; omega) (by have := o.data; omega) wk fn o.ptrs o.data hc hq
  rw [decide_eq_true (by omega : 0 ≤ (i : Int) ∧ (i : Int) < d), Int.toNat_natCast] at hk
  clear hc
  go_wp2_with fail
  refine (HZ _).mono ?_
  rintro e x ⟨rfl, rfl⟩
  go_wp2_with fail
  refine (become_any u _).mono ?_
  rintro e y ⟨r, rfl, hc, hr, hb⟩
  replace hB := hB.trans (hb.mono hB.size)
  have HL := change_yes a (3 + p + i) _ q _ r u y (h.below hB hlt.1 hlt.2) o (hk.later hb) (by omega) (become_makes _ u hc hr) hz
  rw [hX] at HL
  clear hX
  clear h o hc hk hb
  go_wp2_with fail
  refine HL.mono ?_
  rintro e y ⟨rfl, ha, hc⟩
  go_wp2
  go_ret
  exact ⟨rfl, ha, (Chg.of_below hB (Nat.le_refl _)).trans hc⟩

theorem setNum_no (a : Nat) (i n : Int) (w : World) (h : ArenaAt 65 w P b l) (o : ObjIs l a p d wk fn fr) (i0 : -9223372036854775808 ≤ i) (i1 : i ≤ 9223372036854775807) (hi : ¬ (0 ≤ i ∧ i < d)) (n0 : -9223372036854775808 ≤ n) (n1 : n ≤ 9223372036854775807) :
    Calls Try.prog 28 #[.pointer (some ⟨P, 0, none⟩), .int .i64 a, .int .i64 i, .int .i64 n] w fun e w' => e = .returned (.int .i64 71) ∧ Below w.heap.size w w' := by
  have hlt := h.lt
  have HZ := fun w => zig_any n w n0 n1
  generalize zigOf n = u at *
  go_enter Try.func28, Try.ntmps28
  go_wp2_with fail
  refine (num_any i _).mono ?_
  rintro e x ⟨q, rfl, hc, hq, hB⟩
  have hk := num_picks i i0 i1 wk fn o.ptrs o.data hc hq
  rw [decide_eq_false hi] at hk
  clear hc
  go_wp2_with fail
  refine (HZ _).mono ?_
  rintro e x ⟨rfl, rfl⟩
  go_wp2_with fail
  refine (become_any u _).mono ?_
  rintro e y ⟨r, rfl, hc, hr, hb⟩
  replace hB := hB.trans (hb.mono hB.size)
  have HL := fun m r => change_no a _ q m r _ y (h.below hB hlt.1 hlt.2) o (hk.later hb)
  clear h o hc hk hb
  go_wp2_with fail
  refine (HL _ _).mono ?_
  rintro e y ⟨rfl, hb2⟩
  go_wp2
  go_ret
  exact ⟨rfl, hB.trans (hb2.mono hB.size)⟩


theorem setFreed_at (a : Nat) (to : Bool) (w : World) (h : ArenaAt 65 w P b l) (o : ObjIs l a p d wk fn fr) :
    Calls Try.prog 29 #[.pointer (some ⟨P, 0, none⟩), .int .i64 a, .bool to] w fun e w' => e = .returned (.int .i64 0) ∧ ArenaAt 65 w' P b (l.set a (headN p d wk fn to : Nat)) ∧ Chg (· = b) w w' := by
  have hlt := h.lt
  obtain ⟨l', hX⟩ : ∃ x, l.set a (headN p d wk fn to : Nat) = x := ⟨_, rfl⟩
  rw [hX]
  have hlo := headN_lt (wk := wk) (fn := fn) (fr := to) o.ptrs o.data
  go_enter Try.func29, Try.ntmps29
  go_wp2_with fail
  have hV : (w.alloc (.cells #[.bool to] 4)).cell? ⟨w.heap.size, 0, none⟩ = some (.bool to) := by simp
  have hB := (Below.refl _ w).alloc (Nat.le_refl _) (.cells #[.bool to] 4)
  have hQ : w.heap.size < (w.alloc (.cells #[.bool to] 4)).heap.size := by simp
  refine (ahead_any 0 _).mono ?_
  rintro e x ⟨q, rfl, hc, hq, hb⟩
  replace hV := (hb.cell (p := ⟨_, 0, none⟩) hQ).trans hV
  replace hQ := Nat.lt_of_lt_of_le hQ hb.size
  replace hB := hB.trans (hb.mono hB.size)
  have hk := ahead_picks p d wk fn 0 hc hq
  have hm := setFreed_makes (fr := fr) to o.right o.ptrs o.data hV hQ
  rw [← o.head] at hm
  have HL := change_yes a 0 _ q _ _ (headN p d wk fn to : Nat) x (h.below hB hlt.1 hlt.2) o hk (by omega) hm (by omega)
  rw [Nat.add_zero] at HL
  rw [hX] at HL
  clear hX
  clear h o hc hk hV hb hm
  go_wp2_with fail
  refine HL.mono ?_
  rintro e y ⟨rfl, ha, hc⟩
  go_wp2
  go_ret
  exact ⟨rfl, ha, (Chg.of_below hB (Nat.le_refl _)).trans hc⟩

/-! ### Make -/
/-- What Make lays. -/
def madeL (l : List Int) (a p d : Nat) (wk fn : Bool) (serial : Nat) : List Int :=
  (((layL l a (fun _ => 0) (3 + p + d)).set a (headN p d wk fn false : Nat)).set (a + 1) 0).set (a + 2) serial
theorem madeL_length (l : List Int) (a p d : Nat) (wk fn : Bool) (serial : Nat) : (madeL l a p d wk fn serial).length = l.length := by
  unfold madeL; simp
theorem madeL_at {l : List Int} {a p d : Nat} {wk fn : Bool} {serial j : Nat} (h : j < l.length) :
    (madeL l a p d wk fn serial).getD j 0 = if j = a + 2 then (serial : Int) else if j = a then ((headN p d wk fn false : Nat) : Int) else if a ≤ j ∧ j < a + (3 + p + d) then 0 else l.getD j 0 := by
  unfold madeL
  rw [set_at' (by simp; exact h), set_at' (by simp; exact h), set_at' (by simp; exact h), layL_at _ _ _ _ _ h]
  by_cases e1 : j = a + 2
  · rw [if_pos e1, if_pos e1]
  · rw [if_neg e1, if_neg e1]
    by_cases e2 : j = a + 1
    · rw [if_pos e2, if_neg (by omega), if_pos (by omega)]
    · rw [if_neg e2]
theorem madeL_obj {l : List Int} {a : Nat} (serial : Nat) (h : shB p d wk fn = true) (hp : p ≤ 8) (hd : d ≤ 8) (hr : a + (3 + p + d) ≤ l.length) : ObjIs (madeL l a p d wk fn serial) a p d wk fn false :=
  ⟨h, hp, hd, by rw [madeL_length]; exact hr, by rw [madeL_at (by omega), if_neg (by omega), if_pos rfl]⟩

set_option maxHeartbeats 2000000 in
theorem make_yes (a serial : Nat) (w : World) (h : ArenaAt 65 w P b l) (o1 : shB p d wk fn = true) (o2 : p ≤ 8) (o3 : d ≤ 8) (hr : a + (3 + p + d) ≤ l.length) (hs : serial ≤ 1099511627776) :
    Calls Try.prog 24 #[.pointer (some ⟨P, 0, none⟩), .int .i64 a, shV p d wk fn, .int .i64 serial] w fun e w' => e = .returned (.int .i64 0) ∧ ArenaAt 65 w' P b (madeL l a p d wk fn serial) ∧ Chg (· = b) w w' := by
  have hlt := h.lt
  have hl := h.len
  have hlo := headN_lt (wk := wk) (fn := fn) (fr := false) o2 o3
  have HH := head_yes p d wk fn false o1 o2 o3
  have HZ := size_yes p d wk fn o1 o2 o3
  have HF : ∀ w, Calls Try.prog 53 #[.int .i64 0] w fun e w' => e = .returned (.tuple #[.int .u64 0, .bool true]) ∧ Below w.heap.size w w' := fun w => free_any 0 (by omega) w
  have s1 : decide ((serial : Int) < 0) = false := decide_eq_false (by omega)
  have s2 : decide ((1099511627776 : Int) < (serial : Int)) = false := decide_eq_false (by omega)
  have i0 : IntKind.i64.wrap ((a : Int) + 0) = ((a : Nat) : Int) := by rw [IntWalk.i64_in _ (by omega)]; omega
  have i1 : IntKind.i64.wrap ((a : Int) + 1) = ((a + 1 : Nat) : Int) := by rw [IntWalk.i64_in _ (by omega)]; omega
  have i2 : IntKind.i64.wrap ((a : Int) + 2) = ((a + 2 : Nat) : Int) := by rw [IntWalk.i64_in _ (by omega)]; omega
  have u1 : IntKind.u64.wrap (serial : Int) = (serial : Int) := by rw [IntKind.wrap_u64]; omega
  unfold madeL
  have hll : (layL l a (fun _ => 0) (3 + p + d)).length = l.length := layL_length ..
  obtain ⟨m, hM⟩ : ∃ m, layL l a (fun _ => 0) (3 + p + d) = m := ⟨_, rfl⟩
  rw [hM] at hll ⊢
  generalize headN p d wk fn false = v at *
  have hT := ResAt.new w #[.int .i64 p, .int .i64 d, .bool wk, .bool fn] 51
  go_enter Try.func24, Try.ntmps24
  go_wp2_with fail
  refine (HH _).mono ?_
  rintro e x ⟨rfl, hb⟩
  replace hT := hT.keep hb
  clear hb HH
  obtain ⟨⟨c0, c1, c2, c3⟩, f0, f1, f2, f3, l1⟩ := hT.facts4
  go_wp2_with fail
  refine (HZ _).mono ?_
  rintro e y ⟨rfl, hb⟩
  replace hT := hT.keep hb
  clear hb HZ c0 c1 c2 c3 f0 f1 f2 f3 l1
  have hB := hT.below
  clear hT
  have HL := fill_any (a : Int) (3 + (p : Int) + (d : Int)) 0 y (h.below hB hlt.1 hlt.2) (by omega) (by omega) (by omega) (by omega) (by omega)
  rw [show errV l.length (a : Int) (3 + (p : Int) + (d : Int)) = 0 from by unfold errV; rw [if_pos (fitsB_of (by omega) (by omega) (by omega))]] at HL
  rw [show fillV l (a : Int) (3 + (p : Int) + (d : Int)) 0 = layL l a (fun _ => 0) (3 + p + d) from by
    unfold fillV; rw [if_pos (fitsB_of (by omega) (by omega) (by omega)), Int.toNat_natCast, show (3 + (p : Int) + (d : Int)).toNat = 3 + p + d from by omega], hM] at HL
  clear hM
  go_wp2_with fail
  refine HL.mono ?_
  rintro e x2 ⟨rfl, ha, hc⟩
  clear HL h
  have hC := (Chg.of_below (S := (· = b)) hB (Nat.le_refl _)).trans hc
  clear hB hc
  go_wp2_with fail
  refine (HF _).mono ?_
  rintro e x3 ⟨rfl, hb⟩
  replace ha := ha.below hb (by have := ha.lt; omega) (by have := ha.lt; omega)
  replace hC := hC.trans (Chg.of_below hb (Nat.le_refl _))
  clear hb HF
  have hin : a + 2 < m.length := by omega
  have H1 := store_there a (v : Int) _ ha (by omega) (by omega)
  go_wp2_with fail
  refine H1.mono ?_
  rintro e x4 ⟨rfl, ha2, hc⟩
  replace hC := hC.trans hc
  clear hc H1 ha
  have H1 := store_there (a + 1) 0 _ ha2 (by simp; omega) (by omega)
  go_wp2_with fail
  refine H1.mono ?_
  rintro e x5 ⟨rfl, ha, hc⟩
  replace hC := hC.trans hc
  clear hc H1 ha2
  have H1 := store_there (a + 2) (serial : Int) _ ha (by simp; omega) (by omega)
  go_wp2_with fail
  refine H1.mono ?_
  rintro e x6 ⟨rfl, ha2, hc⟩
  replace hC := hC.trans hc
  clear hc H1 ha
  go_wp2
  go_ret
  exact ⟨rfl, ha2, hC⟩

/-- Where there are too few words. -/
theorem make_addr (a serial : Nat) (w : World) (h : ArenaAt 65 w P b l) (o1 : shB p d wk fn = true) (o2 : p ≤ 8) (o3 : d ≤ 8) (ha : a ≤ 65536) (hr : ¬ a + (3 + p + d) ≤ l.length) (hs : serial ≤ 1099511627776) :
    Calls Try.prog 24 #[.pointer (some ⟨P, 0, none⟩), .int .i64 a, shV p d wk fn, .int .i64 serial] w fun e w' => e = .returned (.int .i64 20) ∧ ArenaAt 65 w' P b l ∧ Chg (· = b) w w' := by
  have hlt := h.lt
  have hl := h.len
  have HH := head_yes p d wk fn false o1 o2 o3
  have HZ := size_yes p d wk fn o1 o2 o3
  have s1 : decide ((serial : Int) < 0) = false := decide_eq_false (by omega)
  have s2 : decide ((1099511627776 : Int) < (serial : Int)) = false := decide_eq_false (by omega)
  have hT := ResAt.new w #[.int .i64 p, .int .i64 d, .bool wk, .bool fn] 51
  go_enter Try.func24, Try.ntmps24
  go_wp2_with fail
  refine (HH _).mono ?_
  rintro e x ⟨rfl, hb⟩
  replace hT := hT.keep hb
  clear hb HH
  obtain ⟨⟨c0, c1, c2, c3⟩, f0, f1, f2, f3, l1⟩ := hT.facts4
  go_wp2_with fail
  refine (HZ _).mono ?_
  rintro e y ⟨rfl, hb⟩
  replace hT := hT.keep hb
  clear hb HZ c0 c1 c2 c3 f0 f1 f2 f3 l1
  have hB := hT.below
  clear hT
  have HL := fill_any (a : Int) (3 + (p : Int) + (d : Int)) 0 y (h.below hB hlt.1 hlt.2) (by omega) (by omega) (by omega) (by omega) (by omega)
  rw [show errV l.length (a : Int) (3 + (p : Int) + (d : Int)) = 20 from by unfold errV; rw [fitsB_not (by omega)]; rfl] at HL
  rw [show fillV l (a : Int) (3 + (p : Int) + (d : Int)) 0 = l from by unfold fillV; rw [fitsB_not (by omega)]; rfl] at HL
  go_wp2_with fail
  refine HL.mono ?_
  rintro e x2 ⟨rfl, ha, hc⟩
  clear HL h
  have hC := (Chg.of_below (S := (· = b)) hB (Nat.le_refl _)).trans hc
  clear hB hc
  go_wp2
  go_ret
  exact ⟨rfl, ha, hC⟩

/-- A serial that may not be. -/
theorem make_arg (a : Int) (serial : Int) (w : World) (o1 : shB p d wk fn = true) (o2 : p ≤ 8) (o3 : d ≤ 8) (hs : serial < 0 ∨ 1099511627776 < serial) :
    Calls Try.prog 24 #[.pointer (some ⟨P, 0, none⟩), .int .i64 a, shV p d wk fn, .int .i64 serial] w fun e w' => e = .returned (.int .i64 1) ∧ Below w.heap.size w w' := by
  have HH := head_yes p d wk fn false o1 o2 o3
  have hT := ResAt.new w #[.int .i64 p, .int .i64 d, .bool wk, .bool fn] 51
  rcases hs with hs | hs
  · have s1 : decide ((serial : Int) < 0) = true := decide_eq_true (by omega)
    go_enter Try.func24, Try.ntmps24
    go_wp2_with fail
    refine (HH _).mono ?_
    rintro e x ⟨rfl, hb⟩
    replace hT := hT.keep hb
    go_wp2
    go_ret
    exact ⟨rfl, hT.below⟩
  · have s1 : decide ((serial : Int) < 0) = false := decide_eq_false (by omega)
    have s2 : decide ((1099511627776 : Int) < serial) = true := decide_eq_true (by omega)
    go_enter Try.func24, Try.ntmps24
    go_wp2_with fail
    refine (HH _).mono ?_
    rintro e x ⟨rfl, hb⟩
    replace hT := hT.keep hb
    go_wp2
    go_ret
    exact ⟨rfl, hT.below⟩
end

end Go.Proofs.Ytceedbkacbaaiaa
