/- Package class: the endless iterator hands out the sizes one behind the other; least, Class and Round are the place and the size of the document. No condition. -/
import Derived.Test.YtceedbkacbaaiaaRows
import Derived.Test.YtceedbkacbaaiaaAsk
import Derived.Test.YtceedbkacbaaiaaClassMath
import Derived.Test.YtceedbkacbaaiaaMem
import Derived.Test.YtceedbkacbaaiaaRound
import Derived.Shelf.Abstract
import Derived.Shelf.RegionOpen
import Derived.OwnWalkIn
import Derived.TacticsInMore
import Derived.LoopNIn
import Derived.LoopIn
namespace Go.Proofs.Ytceedbkacbaaiaa
open Go.RowKit Go.Shelf

set_option linter.unusedSimpArgs false
set_option linter.unusedVariables false
attribute [local go_sem] Oper.semAt_some

abbrev encSize (k : Nat) : Array Value := #[.int .i64 (k : Int), .int .i64 (Cls.sz k : Int)]

set_option maxRecDepth 100000 in
set_option maxHeartbeats 2000000 in
theorem rising_asked (n : Nat) (hn1 : 1 ≤ n) (w : World) : Asked Fence.wide n Try.prog 88 #[] encSize 29 w := by
  intro l J Jx W _ hM hY h0
  refine callsIn_of_wp Try.func88 rfl trivial ?_ rfl
  simp only [Try.ntmps88, List.size_toArray, List.length_cons, List.length_nil, Nat.reduceAdd, Nat.reduceSub, Array.replicate_succ, Array.replicate_zero, List.push_toArray, List.append_toArray, List.nil_append, List.cons_append]
  gi_wp2
  gi_loopw [2, 3] (fun pl po wr => ∃ j q : Nat, Hid (q = 2 ^ j) ∧ pl = .int .i64 (2 * (j : Int)) ∧ po = .int .i64 q ∧ J (2 * j) wr) (fun pl _ _ => 29 - (intOf pl).toNat)
  case atStart => exact ⟨0, 1, Lib.hid rfl, rfl, rfl, h0⟩
  case round =>
    obtain ⟨j, q, Hq, rfl, rfl, hJ⟩ := hrel
    have hj := hM _ _ hJ
    have hp := Cls.pow_le (j := j) (by omega)
    rw [← Hq.out] at hp
    have he := Lib.hid (Cls.sz_even j)
    have ho := Lib.hid (Cls.sz_odd j)
    rw [← Hq.out] at he ho
    obtain ⟨fn, tmps, assign, body, hy, hR⟩ := hY _ _ hJ
    dsimp only [encSize] at hy
    rw [he.out, show ((2 * j : Nat) : Int) = 2 * (j : Int) from by omega, show ((4 * q : Nat) : Int) = 4 * (q : Int) from by omega] at hy
    gi_wp2
    refine hR.mono ?_
    clear hR hy
    rintro e V1 (⟨rfl, hJ1⟩ | ⟨rfl, hJx⟩)
    · have hj1 := hM _ _ hJ1
      obtain ⟨fn, tmps, assign, body, hy, hR⟩ := hY _ _ hJ1
      dsimp only [encSize] at hy
      rw [ho.out, show ((2 * j + 1 : Nat) : Int) = 2 * (j : Int) + 1 from by omega, show ((6 * q : Nat) : Int) = 6 * (q : Int) from by omega] at hy
      gi_wp2
      refine hR.mono ?_
      clear hR hy
      rintro e V2 (⟨rfl, hJ2⟩ | ⟨rfl, hJx⟩)
      · gi_wp2
        refine ⟨⟨j + 1, q * 2, ?_, ?_, ?_, hJ2⟩, ?_⟩
        · exact Lib.hid (by rw [Nat.pow_succ, Hq.out])
        · go_num
        · go_num
        · simp [intOf]; omega
      · gi_wp2
        refine bodyPost_ret (results_none rfl _ _ _) rfl ?_
        exact ⟨⟨_, rfl⟩, _, hJx⟩
    · gi_wp2
      refine ⟨fun f hf => (nomatch hf), ?_⟩
      gi_wp2
      refine bodyPost_ret (results_none rfl _ _ _) rfl ?_
      exact ⟨⟨_, rfl⟩, _, hJx⟩

theorem rising_any (n : Nat) (w : World) : CallsIn Fence.wide n Try.prog 84 #[] w fun e w' => e = .returned (.func (.func 88) #[] #[]) ∧ w' = w := by
  refine callsIn_of_wp Try.func84 rfl trivial ?_ rfl
  simp only [Try.ntmps84, List.size_toArray, List.length_cons, List.length_nil, Nat.reduceAdd, Nat.reduceSub, Array.replicate_succ, Array.replicate_zero, List.push_toArray, List.append_toArray, List.nil_append, List.cons_append]
  gi_wp2
  go_ret
  exact ⟨rfl, rfl⟩

/-- The four boxes of a call of least, each by itself. -/
def boxes (w : World) (n : Int) : World := (((w.alloc (.cells #[.int .i64 n] 3)).alloc (.cells #[.int .i64 0] 3)).alloc (.cells #[.int .i64 0] 3)).alloc (.cells #[.bool false] 4)
theorem boxes_is (w : World) (n : Int) : Boxed (boxes w n) w.heap.size 3 (.int .i64 n) ∧ Boxed (boxes w n) (w.heap.size + 1) 3 (.int .i64 0) ∧ Boxed (boxes w n) (w.heap.size + 1 + 1) 3 (.int .i64 0) ∧
    Boxed (boxes w n) (w.heap.size + 1 + 1 + 1) 4 (.bool false) ∧ Below w.heap.size w (boxes w n) ∧ (boxes w n).heap.size = w.heap.size + 4 := by
  have b0 := (((Boxed.new w 3 (.int .i64 n)).alloc (.cells #[.int .i64 0] 3)).alloc (.cells #[.int .i64 0] 3)).alloc (.cells #[.bool false] 4)
  have b1 := ((Boxed.new (w.alloc (.cells #[.int .i64 n] 3)) 3 (.int .i64 0)).alloc (.cells #[.int .i64 0] 3)).alloc (.cells #[.bool false] 4)
  have b2 := (Boxed.new ((w.alloc (.cells #[.int .i64 n] 3)).alloc (.cells #[.int .i64 0] 3)) 3 (.int .i64 0)).alloc (.cells #[.bool false] 4)
  have b3 := Boxed.new (((w.alloc (.cells #[.int .i64 n] 3)).alloc (.cells #[.int .i64 0] 3)).alloc (.cells #[.int .i64 0] 3)) 4 (.bool false)
  simp only [World.size_alloc] at b0 b1 b2 b3
  exact ⟨b0, b1, b2, b3, ((((Below.refl _ w).alloc (Nat.le_refl _) _).alloc (by simp) _).alloc (by simp; omega) _).alloc (by simp; omega) _, by simp [boxes]⟩

set_option maxRecDepth 100000 in
set_option maxHeartbeats 4000000 in
theorem least_out (n : Int) (i0 : -9223372036854775808 ≤ n) (i1 : n ≤ 9223372036854775807) (ho : n < 1 ∨ 65536 < n) (w : World) :
    Calls Try.prog 74 #[.int .i64 n] w fun e w' => e = .returned (.tuple #[.int .i64 0, .int .i64 0, .bool false]) ∧ Below w.heap.size w w' := by
  refine (callsIn_wide (n := 9)).1 ?_
  refine callsIn_of_wp_marks Try.func74 rfl trivial ?_ rfl
  simp only [Try.ntmps74, List.size_toArray, List.length_cons, List.length_nil, Nat.reduceAdd, Nat.reduceSub, Array.replicate_succ, Array.replicate_zero, List.push_toArray, List.append_toArray, List.nil_append, List.cons_append]
  obtain ⟨b0, b1, b2, b3, hB, _⟩ := boxes_is w n
  have c1 := b1.cell
  have c2 := b2.cell
  have c3 := b3.cell
  by_cases h1 : n < 1
  · gi_wp2
    refine ⟨_, ?_, rfl, hB⟩
    simp [results, Try.f74, go_sem, c1, c2, c3, boxes]
  · have h2 : 65536 < n := by omega
    gi_wp2
    refine ⟨_, ?_, rfl, hB⟩
    simp [results, Try.f74, go_sem, c1, c2, c3, boxes]

set_option maxRecDepth 100000 in
set_option maxHeartbeats 4000000 in
theorem least_in (m : Nat) (m0 : 1 ≤ m) (m1 : m ≤ 65536) (w : World) :
    Calls Try.prog 74 #[.int .i64 m] w fun e w' => e = .returned (.tuple #[.int .i64 (Cls.at' m), .int .i64 (Cls.rd m), .bool true]) ∧ Below w.heap.size w w' := by
  have hfF : Fence.wide.fn 84 := trivial
  refine (callsIn_wide (n := 9)).1 ?_
  refine callsIn_of_wp_marks Try.func74 rfl trivial ?_ rfl
  simp only [Try.ntmps74, List.size_toArray, List.length_cons, List.length_nil, Nat.reduceAdd, Nat.reduceSub, Array.replicate_succ, Array.replicate_zero, List.push_toArray, List.append_toArray, List.nil_append, List.cons_append]
  have hm0 : ((m : Int) < 1) = False := by simp; omega
  have hm1 : ((65536 : Int) < m) = False := by simp; omega
  gi_wp2_with (gi_at_call 84; refine (rising_any _ _).mono ?_; rintro e w' ⟨rfl, rfl⟩)
  obtain ⟨bN, bK, bS, bO, hB0, hsz⟩ := boxes_is w m
  obtain ⟨W0, hW0⟩ : ∃ W0, boxes w m = W0 := ⟨_, rfl⟩
  rw [hW0] at bN bK bS bO hB0 hsz
  unfold boxes at hW0
  rw [hW0]
  clear hW0
  have hown : ∀ (t : TypeId) (B : Nat) (v : Value), OwnFrom W0.heap.size (fun (_ : Nat) V => Boxed V B t v) := fun t B v => Own.from (boxed_own B t (fun _ => v)) _
  refine range_asked rfl (by omega) (gf := 88) (lb := #[]) rfl trivial (enters_of Try.func88 (by kernel_rfl) rfl) (rising_asked 8 (by omega) W0) (fun _ => rfl)
    (fun k V => (∀ j, j < k → Cls.sz j < m) ∧ Boxed V w.heap.size 3 (.int .i64 m) ∧ Boxed V (w.heap.size + 1) 3 (.int .i64 0) ∧ Boxed V (w.heap.size + 1 + 1) 3 (.int .i64 0) ∧ Boxed V (w.heap.size + 1 + 1 + 1) 4 (.bool false) ∧ Below w.heap.size W0 V)
    (fun c k V => (c = .ret ∧ k = Cls.at' m) ∧ Boxed V (w.heap.size + 1) 3 (.int .i64 (Cls.at' m)) ∧ Boxed V (w.heap.size + 1 + 1) 3 (.int .i64 (Cls.rd m)) ∧ Boxed V (w.heap.size + 1 + 1 + 1) 4 (.bool true) ∧ Below w.heap.size W0 V)
    ((ownFrom_pure _ _).and ((hown _ _ _).and ((hown _ _ _).and ((hown _ _ _).and ((hown _ _ _).and (ownFrom_below (by omega) (by omega)))))))
    (fun c => (ownFrom_pure _ (fun k => c = .ret ∧ k = Cls.at' m)).and ((hown _ _ _).and ((hown _ _ _).and ((hown _ _ _).and (ownFrom_below (by omega) (by omega))))))
    ?bound ⟨fun j hj => by omega, bN, bK, bS, bO, Below.refl _ _⟩
    (fun k => { tmps := #[.int .i64 m, .pointer (some ⟨w.heap.size, 0, none⟩), .pointer (some ⟨w.heap.size + 1, 0, none⟩), .pointer (some ⟨w.heap.size + 1 + 1, 0, none⟩), .pointer (some ⟨w.heap.size + 1 + 1 + 1, 0, none⟩), .int .i64 k, .int .i64 (Cls.sz k), .int .i64 m, .bool false, .bool false, .int .i64 m, .bool false, .bool false,
      .func (.func 88) #[] #[], .int .i64 k, .int .i64 (Cls.sz k), undef, undef, undef, undef, undef], defers := [] })
    ?assign ?body ?stop
  case bound =>
    rintro k V ⟨hk, _⟩
    by_cases e : k < 29
    · exact e
    · have := hk 28 (by omega)
      rw [Cls.sz_28] at this; omega
  case assign =>
    rintro l k V K hI hK
    gi_wp2
    exact hK
  case body =>
    rintro l k V hl ⟨hk, cN, cK, cS, cO, hB⟩
    have hsV := hB.size
    have f0 := cK.frozen
    have f1 := cS.frozen
    have f2 := cO.frozen
    have a0 := cN.cell
    have a1 := cK.cell
    have a2 := cS.cell
    have a3 := cO.cell
    by_cases hx : m ≤ Cls.sz k
    · have hx' : ((m : Int) ≤ (Cls.sz k : Int)) = True := by simp; omega
      have hat : Cls.at' m = k := Cls.at_eq m1 hx hk
      have hrd : Cls.rd m = Cls.sz k := by unfold Cls.rd; rw [hat]
      have Hat := Lib.hid hat
      have Hrd := Lib.hid hrd
      clear hat hrd hx hk
      gi_wp2
      rw [show (Value.int .i64 (k : Int)) = .int .i64 (Cls.at' m : Nat) from by rw [Hat.out], show (Value.int .i64 (Cls.sz k : Int)) = .int .i64 (Cls.rd m : Nat) from by rw [Hrd.out]]
      exact ⟨((KeepsOthers.setCell _ _ _).from _).trans (((KeepsOthers.setCell _ _ _).from _).trans ((KeepsOthers.setCell _ _ _).from _)), ⟨rfl, Hat.out.symm⟩,
        ((cK.set _).other (by omega) _).other (by omega) _, ((cS.other (by omega) _).set _).other (by omega) _, ((cO.other (by omega) _).other (by omega) _).set _,
        ((hB.setCell (p := ⟨w.heap.size + 1, 0, none⟩) (by simp) _).setCell (p := ⟨w.heap.size + 1 + 1, 0, none⟩) (by simp; omega) _).setCell (p := ⟨w.heap.size + 1 + 1 + 1, 0, none⟩) (by simp; omega) _⟩
    · have hx' : ((m : Int) ≤ (Cls.sz k : Int)) = False := by simp; omega
      gi_wp2
      refine ⟨KeepsFrom.refl _ _, fun j hj => ?_, cN, cK, cS, cO, hB⟩
      by_cases e : j = k
      · rw [e]; omega
      · exact hk j (by omega)
  case stop =>
    rintro D c k V hD ⟨⟨rfl, hk⟩, cK, cS, cO, hB⟩ hDD
    have hsV := hB.size
    gi_wp2
    have d1 := (cK.kept (grownBy_putObj' V D (.deferred none)) (fun e => by injection e; omega)).cell
    have d2 := (cS.kept (grownBy_putObj' V D (.deferred none)) (fun e => by injection e; omega)).cell
    have d3 := (cO.kept (grownBy_putObj' V D (.deferred none)) (fun e => by injection e; omega)).cell
    refine ⟨by simp, .inl ⟨_, _, rfl, run_takeDeferred hDD, ?_⟩⟩
    refine ⟨_, ?_, rfl, (hB0.trans hB).trans (belowK_b (w := w) (Nat.le_refl _) V D _ _ (by omega) hDD rfl rfl)⟩
    simp [results, Try.f74, go_sem, d1, d2, d3]

/-- Whether n has a class. -/
def okN (n : Int) : Bool := decide (1 ≤ n ∧ n ≤ 65536)
theorem okN_of {n : Int} (h0 : 1 ≤ n) (h1 : n ≤ 65536) : okN n = true := decide_eq_true ⟨h0, h1⟩
def placeN (n : Int) : Nat := if okN n then Cls.at' n.toNat else 0
def roundN (n : Int) : Nat := if okN n then Cls.rd n.toNat else 0
theorem placeN_of {m : Nat} (h0 : 1 ≤ m) (h1 : m ≤ 65536) : placeN m = Cls.at' m := by unfold placeN; rw [if_pos (okN_of (by omega) (by omega))]; rfl
theorem roundN_of {m : Nat} (h0 : 1 ≤ m) (h1 : m ≤ 65536) : roundN m = Cls.rd m := by unfold roundN; rw [if_pos (okN_of (by omega) (by omega))]; rfl

theorem least_any (n : Int) (i0 : -9223372036854775808 ≤ n) (i1 : n ≤ 9223372036854775807) (w : World) :
    Calls Try.prog 74 #[.int .i64 n] w fun e w' => e = .returned (.tuple #[.int .i64 (placeN n), .int .i64 (roundN n), .bool (okN n)]) ∧ Below w.heap.size w w' := by
  by_cases h : 1 ≤ n ∧ n ≤ 65536
  · obtain ⟨m, rfl⟩ : ∃ m : Nat, n = m := ⟨n.toNat, by omega⟩
    rw [placeN_of (by omega) (by omega), roundN_of (by omega) (by omega), okN_of h.1 h.2]
    exact least_in m (by omega) (by omega) w
  · have ho : okN n = false := decide_eq_false h
    unfold placeN roundN
    rw [ho]
    exact least_out n i0 i1 (by omega) w

set_option maxRecDepth 100000 in
theorem round_any (n : Int) (i0 : -9223372036854775808 ≤ n) (i1 : n ≤ 9223372036854775807) (w : World) :
    Calls Try.prog 55 #[.int .i64 n] w fun e w' => e = .returned (.tuple #[.int .i64 (roundN n), .bool (okN n)]) ∧ Below w.heap.size w w' := by
  go_enter Try.func55, Try.ntmps55
  go_wp2_with (refine (least_any _ i0 i1 _).mono ?_; rintro e x ⟨rfl, hB⟩)
  exact bodyPost_ret (v := .tuple #[.int .i64 (roundN n), .bool (okN n)]) (by simp [results, Try.f55, go_sem]) rfl ⟨rfl, hB⟩


end Go.Proofs.Ytceedbkacbaaiaa
