/- Package object: the closures that pick a word and those that make it another one; Shape, find, load and change at a place where there is an object. Condition: there is one (ObjIs). -/
import Derived.Test.YtceedbkacbaaiaaArenaNew
import Derived.Test.YtceedbkacbaaiaaHeadFree
import Derived.Test.YtceedbkacbaaiaaWordZig
import Derived.BigQuiet
namespace Go.Proofs.Ytceedbkacbaaiaa
open Go.ChangeShapes Go.WideShapes Go.ChangeAt Go.RowKit

set_option linter.unusedSimpArgs false
set_option linter.unusedVariables false

/-- At place a of l there is an object. -/
structure ObjIs (l : List Int) (a p d : Nat) (wk fn fr : Bool) : Prop where
  right : shB p d wk fn = true
  ptrs : p ≤ 8
  data : d ≤ 8
  room : a + (3 + p + d) ≤ l.length
  head : l.getD a 0 = (headN p d wk fn fr : Nat)

theorem headN_lt {p d : Nat} {wk fn fr : Bool} (hp : p ≤ 8) (hd : d ≤ 8) : headN p d wk fn fr < 4096 := by
  unfold headN
  have b : ∀ b : Bool, b.toNat < 2 := by decide
  have h1 := b wk; have h2 := b fn; have h3 := b fr
  omega
theorem bool_of_nat (b : Bool) : ((b.toNat : Int) == 1) = b := by cases b <;> rfl
theorem headN_read {p d : Nat} {wk fn fr : Bool} (h1 : p ≤ 8) (h2 : d ≤ 8) :
    hp (headN p d wk fn fr) = p ∧ hd (headN p d wk fn fr) = d ∧ hw (headN p d wk fn fr) = wk ∧ hf (headN p d wk fn fr) = fn ∧ hr (headN p d wk fn fr) = fr := by
  have b : ∀ b : Bool, b.toNat < 2 := by decide
  have b1 := b wk; have b2 := b fn; have b3 := b fr
  unfold hp hd hw hf hr headN
  refine ⟨by omega, by omega, ?_, ?_, ?_⟩
  · rw [show (1 + 2 * p + 32 * d + 512 * wk.toNat + 1024 * fn.toNat + 2048 * fr.toNat) / 512 % 2 = wk.toNat from by omega]; exact bool_of_nat wk
  · rw [show (1 + 2 * p + 32 * d + 512 * wk.toNat + 1024 * fn.toNat + 2048 * fr.toNat) / 1024 % 2 = fn.toNat from by omega]; exact bool_of_nat fn
  · rw [show (1 + 2 * p + 32 * d + 512 * wk.toNat + 1024 * fn.toNat + 2048 * fr.toNat) / 2048 % 2 = fr.toNat from by omega]; exact bool_of_nat fr
theorem headN_is {p d : Nat} {wk fn fr : Bool} (h : shB p d wk fn = true) (h1 : p ≤ 8) (h2 : d ≤ 8) : isHead (headN p d wk fn fr) = true := by
  obtain ⟨e1, e2, e3, e4, e5⟩ := headN_read (wk := wk) (fn := fn) (fr := fr) h1 h2
  unfold isHead headV
  rw [e1, e2, e3, e4, e5, h]
  simp
/-- What header's Shape tells of an object's head. -/
theorem shape_head {p d : Nat} {wk fn fr : Bool} (h : shB p d wk fn = true) (h1 : p ≤ 8) (h2 : d ≤ 8) (w : World) :
    Calls Try.prog 42 #[.int .u64 (headN p d wk fn fr : Nat)] w fun e w' => e = .returned (.tuple #[shV p d wk fn, .bool fr, .bool true]) ∧ Below w.heap.size w w' := by
  have hl := headN_lt (wk := wk) (fn := fn) (fr := fr) h1 h2
  have := shape_any (headN p d wk fn fr) (by omega) w
  rw [headN_is h h1 h2, if_pos rfl] at this
  obtain ⟨e1, e2, e3, e4, e5⟩ := headN_read (wk := wk) (fn := fn) (fr := fr) h1 h2
  rw [e1, e2, e3, e4, e5] at this
  exact this

theorem load_in' {l : List Int} {m : Nat} (h : m < l.length) : loadV l m = l.getD m 0 ∧ errV l.length m 1 = 0 := by
  have hf : fitsB l.length m 1 = true := fitsB_of (by omega) (by omega) (by omega)
  unfold loadV errV
  rw [hf]
  exact ⟨rfl, rfl⟩
theorem store_in' {l : List Int} {m : Nat} (x : Int) (h : m < l.length) : fillV l m 1 x = l.set m x ∧ errV l.length m 1 = 0 := by
  have hf : fitsB l.length m 1 = true := fitsB_of (by omega) (by omega) (by omega)
  unfold fillV errV
  rw [hf]
  exact ⟨rfl, rfl⟩
theorem set_at' {l : List Int} {m j : Nat} {x : Int} (h : j < l.length) : (l.set m x).getD j 0 = if j = m then x else l.getD j 0 := by
  rw [List.getD_eq_getElem?_getD, List.getElem?_set]
  by_cases e : m = j
  · subst e; simp [h]
  · rw [if_neg e, if_neg (Ne.symm e), List.getD_eq_getElem?_getD]

section
variable {P b : Nat} {l : List Int} {p d : Nat} {wk fn fr : Bool}

/-- A word that is there, loaded. -/
theorem load_there (m : Nat) (w : World) (h : ArenaAt 65 w P b l) (hm : m < l.length) :
    Calls Try.prog 40 #[.pointer (some ⟨P, 0, none⟩), .int .i64 m] w fun e w' => e = .returned (.tuple #[.int .u64 (l.getD m 0), .int .i64 0]) ∧ w = w' := by
  have hl := h.len
  have := load_any (m : Int) w h (by omega) (by omega)
  rw [(load_in' hm).1, (load_in' hm).2] at this
  exact this
theorem store_there (m : Nat) (x : Int) (w : World) (h : ArenaAt 65 w P b l) (hm : m < l.length) (hx : 0 ≤ x ∧ x ≤ 18446744073709551615) :
    Calls Try.prog 39 #[.pointer (some ⟨P, 0, none⟩), .int .i64 m, .int .u64 x] w fun e w' => e = .returned (.int .i64 0) ∧ ArenaAt 65 w' P b (l.set m x) ∧ Chg (· = b) w w' := by
  have hl := h.len
  have := store_any (m : Int) x w h (by omega) (by omega) hx
  rw [(store_in' x hm).1, (store_in' x hm).2] at this
  exact this

set_option maxHeartbeats 1000000 in
theorem shape_at (a : Nat) (w : World) (h : ArenaAt 65 w P b l) (o : ObjIs l a p d wk fn fr) :
    Calls Try.prog 19 #[.pointer (some ⟨P, 0, none⟩), .int .i64 a] w fun e w' => e = .returned (.tuple #[shV p d wk fn, .bool fr, .int .i64 0]) ∧ Below w.heap.size w w' := by
  obtain ⟨o1, o2, o3, o4, o5⟩ := o
  have hl := h.len
  have hlt := h.lt
  have HL := load_there a _ (h.below ((Below.refl _ w).alloc (Nat.le_refl _) (.cells #[.int .i64 0, .int .i64 0, .bool false, .bool false] 51)) hlt.1 hlt.2) (by omega)
  rw [o5] at HL
  have HS := shape_head (fr := fr) o1 o2 o3
  have HZ := size_yes p d wk fn o1 o2 o3
  generalize headN p d wk fn fr = v at *
  have i1 : IntKind.i64.wrap ((l.length : Int) - (a : Int)) = (l.length : Int) - (a : Int) := IntWalk.i64_in _ (by omega)
  have i2 : decide ((l.length : Int) - (a : Int) < 3 + (p : Int) + (d : Int)) = false := decide_eq_false (by omega)
  have hT := ResAt.new w #[.int .i64 0, .int .i64 0, .bool false, .bool false] 51
  go_enter Try.func19, Try.ntmps19
  go_wp2_with fail
  refine HL.mono ?_
  rintro e x ⟨rfl, rfl⟩
  go_wp2_with fail
  refine (HS _).mono ?_
  rintro e x ⟨rfl, hb⟩
  replace hT := hT.keep hb
  clear hb
  obtain ⟨⟨c0, c1, c2, c3⟩, f0, f1, f2, f3, l1⟩ := hT.facts4
  go_wp2_with fail
  replace hT := (((hT.set 0 (.int .i64 p)).set 1 (.int .i64 d)).set 2 (.bool wk)).set 3 (.bool fn)
  clear c0 c1 c2 c3 f0 f1 f2 f3 l1
  refine (HZ _).mono ?_
  rintro e y ⟨rfl, hb⟩
  replace hT := hT.keep hb
  clear hb HL HS HZ
  have HE := len_any _ (h.below hT.below hlt.1 hlt.2)
  obtain ⟨⟨c0, c1, c2, c3⟩, f0, f1, f2, f3, l1⟩ := hT.facts4
  go_wp2_with fail
  refine HE.mono ?_
  rintro e y ⟨rfl, rfl⟩
  clear HE
  go_wp2
  replace hT := (((hT.set 0 (.int .i64 p)).set 1 (.int .i64 d)).set 2 (.bool wk)).set 3 (.bool fn)
  obtain ⟨⟨e0, e1, e2, e3⟩, _⟩ := hT.facts4
  refine bodyPost_ret (v := .tuple #[shV p d wk fn, .bool fr, .int .i64 0]) ?_ rfl ⟨rfl, hT.below⟩
  simp [results, Try.f19, go_sem, e0, e1, e2, e3]

/-- What a picked word is: so a closure tells, behind w. -/
def Picks (k q : Nat) (p d : Nat) (wk fn : Bool) (n : Nat) (ok : Bool) (w : World) : Prop :=
  (k = 78 ∨ k = 71 ∨ k = 76) ∧
  ∀ x, Below w.heap.size w x → Calls Try.prog k #[shV p d wk fn, .pointer (some ⟨q, 0, none⟩)] x fun e y => ∃ z : Int, e = .returned (.tuple #[.int .i64 z, .bool ok]) ∧ (ok = true → z = n) ∧ Below x.heap.size x y
theorem Picks.later {k q n : Nat} {ok : Bool} {w x : World} (h : Picks k q p d wk fn n ok w) (hb : Below w.heap.size w x) : Picks k q p d wk fn n ok x :=
  ⟨h.1, fun y hy => h.2 y (hb.trans (hy.mono hb.size))⟩

set_option maxHeartbeats 1000000 in
theorem find_yes (a n k q : Nat) (w : World) (h : ArenaAt 65 w P b l) (o : ObjIs l a p d wk fn fr) (hk : Picks k q p d wk fn n true w) (hn : n < 3 + p + d) :
    Calls Try.prog 70 #[.pointer (some ⟨P, 0, none⟩), .int .i64 a, .func (.func k) #[] #[.pointer (some ⟨q, 0, none⟩)]] w fun e w' => e = .returned (.tuple #[.int .i64 (a + n : Nat), .int .i64 0]) ∧ Below w.heap.size w w' := by
  have HS := shape_at a w h o
  have hl := h.len
  have hr := o.room
  have i1 : IntKind.i64.wrap ((a : Int) + (n : Int)) = ((a + n : Nat) : Int) := by rw [IntWalk.i64_in _ (by omega)]; omega
  obtain ⟨hk, hK⟩ := hk
  clear h o
  rcases hk with rfl | rfl | rfl
  all_goals
    go_enter Try.func70, Try.ntmps70
    go_wp2_with fail
    refine HS.mono ?_
    rintro e x ⟨rfl, hb⟩
    go_wp2_with fail
    have hB := hb.alloc hb.size (.cells #[.int .i64 p, .int .i64 d, .bool wk, .bool fn] 51)
    refine (hK _ hB).mono ?_
    rintro e y ⟨z, rfl, hz, hb2⟩
    obtain rfl := hz (by trivial)
    go_wp2
    go_ret2
    exact ⟨rfl, hB.trans (hb2.mono hB.size)⟩

set_option maxHeartbeats 1000000 in
theorem find_no (a k q z : Nat) (w : World) (h : ArenaAt 65 w P b l) (o : ObjIs l a p d wk fn fr) (hk : Picks k q p d wk fn z false w) :
    Calls Try.prog 70 #[.pointer (some ⟨P, 0, none⟩), .int .i64 a, .func (.func k) #[] #[.pointer (some ⟨q, 0, none⟩)]] w fun e w' => e = .returned (.tuple #[.int .i64 0, .int .i64 71]) ∧ Below w.heap.size w w' := by
  have HS := shape_at a w h o
  obtain ⟨hk, hK⟩ := hk
  clear h o
  rcases hk with rfl | rfl | rfl
  all_goals
    go_enter Try.func70, Try.ntmps70
    go_wp2_with fail
    refine HS.mono ?_
    rintro e x ⟨rfl, hb⟩
    go_wp2_with fail
    have hB := hb.alloc hb.size (.cells #[.int .i64 p, .int .i64 d, .bool wk, .bool fn] 51)
    refine (hK _ hB).mono ?_
    rintro e y ⟨z, rfl, -, hb2⟩
    go_wp2
    go_ret2
    exact ⟨rfl, hB.trans (hb2.mono hB.size)⟩

theorem obj_load (a n k q : Nat) (w : World) (h : ArenaAt 65 w P b l) (o : ObjIs l a p d wk fn fr) (hk : Picks k q p d wk fn n true w) (hn : n < 3 + p + d) :
    Calls Try.prog 45 #[.pointer (some ⟨P, 0, none⟩), .int .i64 a, .func (.func k) #[] #[.pointer (some ⟨q, 0, none⟩)]] w fun e w' => e = .returned (.tuple #[.int .u64 (l.getD (a + n) 0), .int .i64 0]) ∧ Below w.heap.size w w' := by
  have HF := find_yes a n k q w h o hk hn
  have hlt := h.lt
  have HL := fun x (hb : Below w.heap.size w x) => load_there (a + n) x (h.below hb hlt.1 hlt.2) (by have := o.room; omega)
  generalize l.getD (a + n) 0 = v at *
  clear h o hk
  go_enter Try.func45, Try.ntmps45
  go_wp2_with fail
  refine HF.mono ?_
  rintro e x ⟨rfl, hb⟩
  go_wp2_with fail
  refine (HL x hb).mono ?_
  rintro e x ⟨rfl, rfl⟩
  go_wp2
  go_ret2
  exact ⟨rfl, hb⟩

theorem obj_load_no (a k q z : Nat) (w : World) (h : ArenaAt 65 w P b l) (o : ObjIs l a p d wk fn fr) (hk : Picks k q p d wk fn z false w) :
    Calls Try.prog 45 #[.pointer (some ⟨P, 0, none⟩), .int .i64 a, .func (.func k) #[] #[.pointer (some ⟨q, 0, none⟩)]] w fun e w' => e = .returned (.tuple #[.int .u64 0, .int .i64 71]) ∧ Below w.heap.size w w' := by
  have HF := find_no a k q z w h o hk
  clear h o hk
  go_enter Try.func45, Try.ntmps45
  go_wp2_with fail
  refine HF.mono ?_
  rintro e x ⟨rfl, hb⟩
  go_wp2
  go_ret2
  exact ⟨rfl, hb⟩

/-- What a word is made: so a closure tells, behind w. -/
def Makes (k q : Nat) (u v : Int) (w : World) : Prop :=
  (k = 48 ∨ k = 77 ∨ k = 61) ∧
  ∀ x, Below w.heap.size w x → Calls Try.prog k #[.int .u64 u, .pointer (some ⟨q, 0, none⟩)] x fun e y => e = .returned (.tuple #[.int .u64 v, .int .i64 0]) ∧ Below x.heap.size x y
theorem Makes.later {k q : Nat} {u v : Int} {w x : World} (h : Makes k q u v w) (hb : Below w.heap.size w x) : Makes k q u v x :=
  ⟨h.1, fun y hy => h.2 y (hb.trans (hy.mono hb.size))⟩

set_option maxHeartbeats 1000000 in
theorem change_yes (a n k q m r : Nat) (v : Int) (w : World) (h : ArenaAt 65 w P b l) (o : ObjIs l a p d wk fn fr) (hk : Picks k q p d wk fn n true w) (hn : n < 3 + p + d) (hm : Makes m r (l.getD (a + n) 0) v w) (hv : 0 ≤ v ∧ v ≤ 18446744073709551615) :
    Calls Try.prog 47 #[.pointer (some ⟨P, 0, none⟩), .int .i64 a, .func (.func k) #[] #[.pointer (some ⟨q, 0, none⟩)], .func (.func m) #[] #[.pointer (some ⟨r, 0, none⟩)]] w fun e w' => e = .returned (.int .i64 0) ∧ ArenaAt 65 w' P b (l.set (a + n) v) ∧ Chg (· = b) w w' := by
  have HF := find_yes a n k q w h o hk hn
  have hlt := h.lt
  have hin : a + n < l.length := by have := o.room; omega
  have HL := fun x (hb : Below w.heap.size w x) => load_there (a + n) x (h.below hb hlt.1 hlt.2) hin
  have HS := fun x (hb : Below w.heap.size w x) => store_there (a + n) v x (h.below hb hlt.1 hlt.2) hin hv
  obtain ⟨hm, hM⟩ := hm
  generalize l.getD (a + n) 0 = u at *
  clear h o hk hn hv
  rcases hm with rfl | rfl | rfl
  all_goals
    go_enter Try.func47, Try.ntmps47
    go_wp2_with fail
    refine HF.mono ?_
    rintro e x ⟨rfl, hb⟩
    go_wp2_with fail
    refine (HL x hb).mono ?_
    rintro e x ⟨rfl, rfl⟩
    go_wp2_with fail
    refine (hM _ hb).mono ?_
    rintro e y ⟨rfl, hb2⟩
    replace hb2 := hb.trans (hb2.mono hb.size)
    go_wp2_with fail
    refine (HS _ hb2).mono ?_
    rintro e z ⟨rfl, ha, hc⟩
    go_wp2
    go_ret
    exact ⟨rfl, ha, (Chg.of_below hb2 (Nat.le_refl _)).trans hc⟩

theorem change_no (a k q m r z : Nat) (w : World) (h : ArenaAt 65 w P b l) (o : ObjIs l a p d wk fn fr) (hk : Picks k q p d wk fn z false w) :
    Calls Try.prog 47 #[.pointer (some ⟨P, 0, none⟩), .int .i64 a, .func (.func k) #[] #[.pointer (some ⟨q, 0, none⟩)], .func (.func m) #[] #[.pointer (some ⟨r, 0, none⟩)]] w fun e w' => e = .returned (.int .i64 71) ∧ Below w.heap.size w w' := by
  have HF := find_no a k q z w h o hk
  clear h o hk
  go_enter Try.func47, Try.ntmps47
  go_wp2_with fail
  refine HF.mono ?_
  rintro e x ⟨rfl, hb⟩
  go_wp2
  go_ret
  exact ⟨rfl, hb⟩

end

/-! ### The closures -/
theorem drewN_below {B : Nat} {a w : World} (h : Below B a w) (n : Nat) : Below B a (w.drewN n) := ⟨h.os, h.tape, h.output, h.size, h.block⟩
section
variable (p d : Nat) (wk fn : Bool) (q : Nat) (x : World)
theorem ahead_in (n : Int) (hc : x.cell? ⟨q, 0, none⟩ = some (.int .i64 n)) (hq : q < x.heap.size) :
    Calls Try.prog 78 #[shV p d wk fn, .pointer (some ⟨q, 0, none⟩)] x fun e y => e = .returned (.tuple #[.int .i64 n, .bool true]) ∧ Below x.heap.size x y := by
  go_enter Try.func78, Try.ntmps78
  go_wp2
  go_ret2
  exact ⟨rfl, (Below.refl _ x).alloc (Nat.le_refl _) _⟩
theorem ptr_in (i : Int) (i0 : -9223372036854775808 ≤ i) (i1 : i ≤ 9223372036854775807) (hp : p ≤ 8) (hc : x.cell? ⟨q, 0, none⟩ = some (.int .i64 i)) (hq : q < x.heap.size) :
    Calls Try.prog 71 #[shV p d wk fn, .pointer (some ⟨q, 0, none⟩)] x fun e y => ∃ z : Int, e = .returned (.tuple #[.int .i64 z, .bool (decide (0 ≤ i ∧ i < p))]) ∧ (decide (0 ≤ i ∧ i < p) = true → z = (3 + i.toNat : Nat)) ∧ Below x.heap.size x y := by
  by_cases h1 : 0 ≤ i
  · have g1 : decide (0 ≤ i) = true := decide_eq_true h1
    by_cases h2 : i < p
    · have g2 : decide (i < (p : Int)) = true := decide_eq_true h2
      have g3 : IntKind.i64.wrap (3 + i) = 3 + i := IntWalk.i64_in _ (by omega)
      rw [decide_eq_true (show 0 ≤ i ∧ i < p from ⟨h1, h2⟩)]
      go_enter Try.func71, Try.ntmps71
      go_wp2
      go_quiet (fail)
      go_wp2
      go_ret2
      exact ⟨_, rfl, fun _ => by omega, drewN_below ((Below.refl _ x).alloc (Nat.le_refl _) _) _⟩
    · have g2 : decide (i < (p : Int)) = false := decide_eq_false h2
      rw [decide_eq_false (show ¬ (0 ≤ i ∧ i < p) from fun h => h2 h.2)]
      go_enter Try.func71, Try.ntmps71
      go_wp2
      go_quiet (fail)
      go_wp2
      go_ret2
      exact ⟨_, rfl, by simp, drewN_below ((Below.refl _ x).alloc (Nat.le_refl _) _) _⟩
  · have g1 : decide (0 ≤ i) = false := decide_eq_false h1
    rw [decide_eq_false (show ¬ (0 ≤ i ∧ i < p) from fun h => h1 h.1)]
    go_enter Try.func71, Try.ntmps71
    go_wp2
    go_quiet (fail)
    go_wp2
    go_ret2
    exact ⟨_, rfl, by simp, drewN_below ((Below.refl _ x).alloc (Nat.le_refl _) _) _⟩
theorem num_in (i : Int) (i0 : -9223372036854775808 ≤ i) (i1 : i ≤ 9223372036854775807) (hp : p ≤ 8) (hd : d ≤ 8) (hc : x.cell? ⟨q, 0, none⟩ = some (.int .i64 i)) (hq : q < x.heap.size) :
    Calls Try.prog 76 #[shV p d wk fn, .pointer (some ⟨q, 0, none⟩)] x fun e y => ∃ z : Int, e = .returned (.tuple #[.int .i64 z, .bool (decide (0 ≤ i ∧ i < d))]) ∧ (decide (0 ≤ i ∧ i < d) = true → z = (3 + p + i.toNat : Nat)) ∧ Below x.heap.size x y := by
  have g0 : IntKind.i64.wrap (3 + (p : Int)) = 3 + (p : Int) := IntWalk.i64_in _ (by omega)
  by_cases h1 : 0 ≤ i
  · have g1 : decide (0 ≤ i) = true := decide_eq_true h1
    by_cases h2 : i < d
    · have g2 : decide (i < (d : Int)) = true := decide_eq_true h2
      have g3 : IntKind.i64.wrap (3 + (p : Int) + i) = 3 + (p : Int) + i := IntWalk.i64_in _ (by omega)
      rw [decide_eq_true (show 0 ≤ i ∧ i < d from ⟨h1, h2⟩)]
      go_enter Try.func76, Try.ntmps76
      go_wp2
      go_quiet (fail)
      go_wp2
      go_ret2
      exact ⟨_, rfl, fun _ => by omega, drewN_below ((Below.refl _ x).alloc (Nat.le_refl _) _) _⟩
    · have g2 : decide (i < (d : Int)) = false := decide_eq_false h2
      rw [decide_eq_false (show ¬ (0 ≤ i ∧ i < d) from fun h => h2 h.2)]
      go_enter Try.func76, Try.ntmps76
      go_wp2
      go_quiet (fail)
      go_wp2
      go_ret2
      exact ⟨_, rfl, by simp, drewN_below ((Below.refl _ x).alloc (Nat.le_refl _) _) _⟩
  · have g1 : decide (0 ≤ i) = false := decide_eq_false h1
    rw [decide_eq_false (show ¬ (0 ≤ i ∧ i < d) from fun h => h1 h.1)]
    go_enter Try.func76, Try.ntmps76
    go_wp2
    go_quiet (fail)
    go_wp2
    go_ret2
    exact ⟨_, rfl, by simp, drewN_below ((Below.refl _ x).alloc (Nat.le_refl _) _) _⟩
theorem become_in (u v : Int) (hc : x.cell? ⟨q, 0, none⟩ = some (.int .u64 v)) (hq : q < x.heap.size) :
    Calls Try.prog 77 #[.int .u64 u, .pointer (some ⟨q, 0, none⟩)] x fun e y => e = .returned (.tuple #[.int .u64 v, .int .i64 0]) ∧ Below x.heap.size x y := by
  go_enter Try.func77, Try.ntmps77
  go_wp2
  go_ret2
  exact ⟨rfl, Below.refl _ x⟩
theorem setPtr_in (u : Int) (v : Nat) (hv : v ≤ 131072) (hc : x.cell? ⟨q, 0, none⟩ = some (.int .i64 v)) (hq : q < x.heap.size) :
    Calls Try.prog 48 #[.int .u64 u, .pointer (some ⟨q, 0, none⟩)] x fun e y => e = .returned (.tuple #[.int .u64 v, .int .i64 0]) ∧ Below x.heap.size x y := by
  have g1 : decide ((v : Int) < 0) = false := decide_eq_false (by omega)
  have g2 : decide ((131072 : Int) < (v : Int)) = false := decide_eq_false (by omega)
  have g3 : IntKind.u64.wrap (v : Int) = (v : Int) := by rw [IntKind.wrap_u64]; omega
  go_enter Try.func48, Try.ntmps48
  go_wp2
  go_ret2
  exact ⟨rfl, Below.refl _ x⟩
set_option maxHeartbeats 1000000 in
theorem setFreed_in {p d : Nat} {wk fn fr : Bool} (to : Bool) (h : shB p d wk fn = true) (hp : p ≤ 8) (hd : d ≤ 8) (hc : x.cell? ⟨q, 0, none⟩ = some (.bool to)) (hq : q < x.heap.size) :
    Calls Try.prog 61 #[.int .u64 (headN p d wk fn fr : Nat), .pointer (some ⟨q, 0, none⟩)] x fun e y => e = .returned (.tuple #[.int .u64 (headN p d wk fn to : Nat), .int .i64 0]) ∧ Below x.heap.size x y := by
  have HS := shape_head (fr := fr) h hp hd
  have HH := head_yes p d wk fn to h hp hd
  generalize headN p d wk fn fr = u at *
  generalize headN p d wk fn to = v at *
  go_enter Try.func61, Try.ntmps61
  go_wp2_with fail
  refine (HS _).mono ?_
  rintro e y ⟨rfl, hb⟩
  have hc1 := (hb.cell (p := ⟨q, 0, none⟩) hq).trans hc
  have hq1 := Nat.lt_of_lt_of_le hq hb.size
  clear hc hq
  go_wp2_with fail
  refine (HH _).mono ?_
  rintro e z ⟨rfl, hb2⟩
  have hB := hb.alloc hb.size (.cells #[.int .i64 p, .int .i64 d, .bool wk, .bool fn] 51)
  go_wp2
  go_ret2
  exact ⟨rfl, hB.trans (hb2.mono hB.size)⟩
end

end Go.Proofs.Ytceedbkacbaaiaa
