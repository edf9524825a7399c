/- Package graph: Same of nodes that are the same. Condition: there are such nodes (NodesAt). -/
import Derived.Test.YtceedbkacbaaiaaGraphCanon
namespace Go.Proofs.Ytceedbkacbaaiaa
open Go.ChangeShapes Go.WideShapes Go.ChangeAt Go.RowKit

set_option linter.unusedSimpArgs false
set_option linter.unusedVariables false

set_option maxRecDepth 100000 in
theorem equal_nil (a a' : Option Addr) (c c' : Nat) (w : World) :
    Calls Try.prog 72 #[.slice a 0 c, .slice a' 0 c'] w fun e w' => e = .returned (.bool true) ∧ Below w.heap.size w w' := by
  go_enter Try.func72, Try.ntmps72
  go_wp2
  go_loopw [13] (fun i wr => i = .int .i64 0 ∧ Below w.heap.size w wr) (fun i _ => 0)
  case atStart => exact ⟨rfl, Below.refl _ _⟩
  case round =>
    obtain ⟨rfl, hB⟩ := hrel
    go_wp2
    go_ret
    exact ⟨rfl, hB⟩

set_option maxRecDepth 100000 in
set_option maxHeartbeats 1000000 in
theorem equal_same (v u : Value) (xs : List Int) (w : World) (hv : ReadsAs .i64 w v xs) (hu : ReadsAs .i64 w u xs) :
    Calls Try.prog 72 #[v, u] w fun e w' => e = .returned (.bool true) ∧ Below w.heap.size w w' := by
  have hm := hv.1
  obtain ⟨va, vc, rfl, hv'⟩ := hv.slice
  obtain ⟨ua, uc, rfl, hu'⟩ := hu.slice
  by_cases h0 : xs = []
  · subst h0
    exact equal_nil _ _ _ _ w
  · have hpos := List.length_pos_iff.2 h0
    obtain ⟨g, rfl, hg, hc, hr⟩ := hv' hpos
    obtain ⟨g', rfl, hg', hc', hr'⟩ := hu' hpos
    unfold maxLen at hm
    have HR := Lib.hid hr
    have HR' := Lib.hid hr'
    obtain ⟨n, hn⟩ : ∃ n, xs.length = n := ⟨_, rfl⟩
    have Hn := Lib.hid hn
    rw [hn] at hm hc hc' ⊢
    clear hr hr' hn h0 hpos hv hu hv' hu'
    go_enter Try.func72, Try.ntmps72
    go_wp2
    go_loopw [13] (fun i wr => ∃ k : Nat, k ≤ n ∧ i = .int .i64 k ∧ Below w.heap.size w wr) (fun i _ => n - (intOf i).toNat)
    case atStart => exact ⟨0, by omega, rfl, Below.refl _ _⟩
    case round =>
      obtain ⟨k, hk, rfl, hB⟩ := hrel
      by_cases hlt : k < n
      · have a1 := (hB.cell (p := ⟨g, k, none⟩) hg).trans (HR.out k (by rw [Hn.out]; exact hlt))
        have a2 := (hB.cell (p := ⟨g', k, none⟩) hg').trans (HR'.out k (by rw [Hn.out]; exact hlt))
        generalize xs.getD k 0 = x at *
        have b0 : (0 : Int) ≤ (k : Int) := by omega
        have b1 : (k : Int) < (n : Int) := by omega
        go_wp2
        go_quiet (fail)
        go_wp2
        go_roundw
        case rel => exact ⟨k + 1, by omega, by go_num, drewN_below hB _⟩
        case measure => simp [intOf]; omega
      · go_wp2
        go_ret
        exact ⟨rfl, hB⟩

/-- A node as a value. -/
def ndV (x : Nd) (pv nv : Value) : Value := .agg #[.int .i64 x.ser, .int .i64 x.p, .int .i64 x.d, .bool x.wk, .bool x.fn, .bool x.fr, pv, nv]
set_option maxRecDepth 100000 in
set_option maxHeartbeats 4000000 in
theorem sameNode_yes (ser p d : Int) (wk fn fr : Bool) (ptrs nums : List Int) (pv nv pu nu : Value) (w : World) (h1 : ReadsAs .i64 w pv ptrs) (h2 : ReadsAs .i64 w nv nums) (h3 : ReadsAs .i64 w pu ptrs) (h4 : ReadsAs .i64 w nu nums) :
    Calls Try.prog 50 #[.agg #[.int .i64 ser, .int .i64 p, .int .i64 d, .bool wk, .bool fn, .bool fr, pv, nv], .agg #[.int .i64 ser, .int .i64 p, .int .i64 d, .bool wk, .bool fn, .bool fr, pu, nu]] w fun e w' => e = .returned (.bool true) ∧ Below w.heap.size w w' := by
  obtain ⟨k1, k2, hB⟩ := two_new w #[.int .i64 ser, .int .i64 p, .int .i64 d, .bool wk, .bool fn, .bool fr, pv, nv] #[.int .i64 ser, .int .i64 p, .int .i64 d, .bool wk, .bool fn, .bool fr, pu, nu] 62 62
  have H1 := fun y (hb : Below w.heap.size w y) => equal_same pv pu ptrs y (h1.below hb) (h3.below hb)
  have H2 := fun y (hb : Below w.heap.size w y) => equal_same nv nu nums y (h2.below hb) (h4.below hb)
  obtain ⟨pva, pvc, hpv, -⟩ := h1.slice
  obtain ⟨pua, puc, hpu, -⟩ := h3.slice
  obtain ⟨nva, nvc, hnv, -⟩ := h2.slice
  obtain ⟨nua, nuc, hnu, -⟩ := h4.slice
  generalize ptrs.length = pl at *
  generalize nums.length = nl at *
  clear h1 h2 h3 h4
  subst hpv hpu hnv hnu
  go_enter Try.func50, Try.ntmps50
  obtain ⟨c0, c1, c2, c3, c4, c5, c6, c7, -⟩ := k1.facts8
  obtain ⟨d0, d1, d2, d3, d4, d5, d6, d7, -⟩ := k2.facts8
  go_wp2_with fail
  generalize (w.alloc (.cells #[.int .i64 ser, .int .i64 p, .int .i64 d, .bool wk, .bool fn, .bool fr, .slice pva pl pvc, .slice nva nl nvc] 62)).alloc (.cells #[.int .i64 ser, .int .i64 p, .int .i64 d, .bool wk, .bool fn, .bool fr, .slice pua pl puc, .slice nua nl nuc] 62) = x0 at *
  clear c0 c1 c2 c3 c4 c5 c6 c7 d0 d1 d2 d3 d4 d5 d6 d7
  refine (H1 _ hB).mono ?_
  rintro e x1 ⟨rfl, hb⟩
  replace k1 := k1.on hb
  replace k2 := k2.on hb
  replace hB := hB.trans (hb.mono hB.size)
  clear hb x0
  obtain ⟨c0, c1, c2, c3, c4, c5, c6, c7, -⟩ := k1.facts8
  obtain ⟨d0, d1, d2, d3, d4, d5, d6, d7, -⟩ := k2.facts8
  go_wp2_with fail
  refine (H2 _ hB).mono ?_
  rintro e x2 ⟨rfl, hb⟩
  go_wp2
  go_ret
  exact ⟨rfl, hB.trans (hb.mono hB.size)⟩

set_option maxRecDepth 100000 in
set_option maxHeartbeats 8000000 in
theorem equalFunc_yes (B B' n : Nat) (v u : Value) (f : Nat → Nd) (w : World) (hv : NodesAt B w v f n) (hu : NodesAt B' w u f n) (hn : n ≤ 65536) :
    Calls Try.prog 49 #[v, u, .func (.func 50) #[] #[]] w fun e w' => e = .returned (.bool true) ∧ Below w.heap.size w w' := by
  obtain ⟨va, vc, rfl, hv⟩ := hv
  obtain ⟨ua, uc, rfl, hu⟩ := hu
  have Hv := Lib.hid hv
  have Hu := Lib.hid hu
  clear hv hu
  go_enter Try.func49, Try.ntmps49
  go_wp2
  go_loopw [17] (fun i wr => ∃ k : Nat, k ≤ n ∧ i = .int .i64 k ∧ Below w.heap.size w wr) (fun i _ => n - (intOf i).toNat)
  case atStart => exact ⟨0, by omega, rfl, Below.refl _ _⟩
  case round =>
    obtain ⟨k, hk, rfl, hB⟩ := hrel
    by_cases hlt : k < n
    · obtain ⟨nb, rfl, hB1, hl1, hc1, hr1⟩ := Hv.out (by omega)
      obtain ⟨nb', rfl, hB2, hl2, hc2, hr2⟩ := Hu.out (by omega)
      obtain ⟨pv, nv, ⟨c0, c1, c2, c3, c4, c5, c6, c7⟩, r1, r2⟩ := hr1 k hlt
      obtain ⟨pu, nu, ⟨d0, d1, d2, d3, d4, d5, d6, d7⟩, r3, r4⟩ := hr2 k hlt
      have hbe := fun j => hB.cell (p := ⟨nb, j, none⟩) hl1
      have hbe' := fun j => hB.cell (p := ⟨nb', j, none⟩) hl2
      rw [← hbe] at c0 c1 c2 c3 c4 c5 c6 c7
      rw [← hbe'] at d0 d1 d2 d3 d4 d5 d6 d7
      generalize f k = x at *
      have H1 := fun y (hb : Below w.heap.size w y) => sameNode_yes x.ser x.p x.d x.wk x.fn x.fr x.ptrs x.nums pv nv pu nu y (r1.1.below hb) (r2.1.below hb) (r3.1.below hb) (r4.1.below hb)
      obtain ⟨pva, pvc, hpv, -⟩ := r1.1.slice
      obtain ⟨pua, puc, hpu, -⟩ := r3.1.slice
      obtain ⟨nva, nvc, hnv, -⟩ := r2.1.slice
      obtain ⟨nua, nuc, hnu, -⟩ := r4.1.slice
      generalize x.ptrs.length = pl at *
      generalize x.nums.length = nl at *
      clear hbe hbe' hr1 hr2 r1 r2 r3 r4
      subst hpv hpu hnv hnu
      have b0 : (0 : Int) ≤ (k : Int) := by omega
      have b1 : (k : Int) < (n : Int) := by omega
      have hl2r : nb' < wr.heap.size := Nat.lt_of_lt_of_le hl2 hB.size
      have hBx := (two_new wr #[.int .i64 x.ser, .int .i64 x.p, .int .i64 x.d, .bool x.wk, .bool x.fn, .bool x.fr, .slice pva pl pvc, .slice nva nl nvc] #[.int .i64 x.ser, .int .i64 x.p, .int .i64 x.d, .bool x.wk, .bool x.fn, .bool x.fr, .slice pua pl puc, .slice nua nl nuc] 62 62).2.2
      replace hBx := hB.trans (hBx.mono hB.size)
      go_wp2_with fail
      refine (H1 _ hBx).mono ?_
      rintro e x1 ⟨rfl, hb⟩
      clear H1 c0 c1 c2 c3 c4 c5 c6 c7 d0 d1 d2 d3 d4 d5 d6 d7
      go_wp2
      go_roundw
      case rel => exact ⟨k + 1, by omega, by go_num, hBx.trans (hb.mono hBx.size)⟩
      case measure => simp [intOf]; omega
    · go_wp2
      go_ret
      exact ⟨rfl, hB⟩

set_option maxRecDepth 100000 in
theorem same_yes (B B' n : Nat) (v u : Value) (f : Nat → Nd) (w : World) (hv : NodesAt B w v f n) (hu : NodesAt B' w u f n) (hn : n ≤ 65536) :
    Calls Try.prog 22 #[v, u] w fun e w' => e = .returned (.bool true) ∧ Below w.heap.size w w' := by
  have M1 := equalFunc_yes B B' n v u f w hv hu hn
  go_enter Try.func22, Try.ntmps22
  go_wp2_with fail
  refine M1.mono ?_
  rintro e x ⟨rfl, hb⟩
  go_wp2
  go_ret
  exact ⟨rfl, hb⟩

set_option maxRecDepth 100000 in
/-- Of unlike lengths. -/
theorem equalFunc_no (a a' : Option Addr) (n m c c' : Nat) (w : World) (hn : ¬ n = m) :
    Calls Try.prog 49 #[.slice a n c, .slice a' m c', .func (.func 50) #[] #[]] w fun e w' => e = .returned (.bool false) ∧ w = w' := by
  have hne : ((n : Int) != (m : Int)) = true := by simp; omega
  go_enter Try.func49, Try.ntmps49
  go_wp2
  go_ret
  exact ⟨rfl, rfl⟩
set_option maxRecDepth 100000 in
theorem same_no (a a' : Option Addr) (n m c c' : Nat) (w : World) (hn : ¬ n = m) :
    Calls Try.prog 22 #[.slice a n c, .slice a' m c'] w fun e w' => e = .returned (.bool false) ∧ w = w' := by
  have M1 := equalFunc_no a a' n m c c' w hn
  go_enter Try.func22, Try.ntmps22
  go_wp2_with fail
  refine M1.mono ?_
  rintro e x ⟨rfl, rfl⟩
  go_wp2
  go_ret
  exact ⟨rfl, rfl⟩

end Go.Proofs.Ytceedbkacbaaiaa
