/- Maps from numbers to numbers, and to Bools, told by plain functions: made, looked up, stored into. Plain; no condition. -/
import Derived.Test.YtceedbkacbaaiaaRows
import Derived.Test.YtceedbkacbaaiaaMem
import Derived.WalkKit
import Derived.ProofKit
import Derived.Maps.Own
import Derived.Maps.OwnOps
import Derived.Maps.OwnSet
namespace Go.Proofs.Ytceedbkacbaaiaa
set_option linter.unusedVariables false
open Go.RowKit
open Go.Maps (Keyed)

theorem keyI : Keyed Try.prog 3 := Maps.int_keyed Try.underlying3
theorem zeroI (w : World) : (zeroValue 3).run Try.prog w = .ok (.int .i64 0) w := by kernel_rfl
theorem zeroB (w : World) : (zeroValue 4).run Try.prog w = .ok (.bool false) w := by kernel_rfl
theorem wfI {x : Int} (h : -9223372036854775808 ≤ x ∧ x ≤ 9223372036854775807) : (Lit.int .i64 x).wf = true := WalkArith.wf_i64 h
theorem keyOfI {x : Int} (h : -9223372036854775808 ≤ x ∧ x ≤ 9223372036854775807) : keyOf Try.prog 3 (.int .i64 x) = some (.int .i64 x) := Maps.keyOf_int_mk Try.underlying3 (wfI h)

/-- Block b is a map of at most n entries, from ints to ints: at x it has g x. -/
def IMap (w : World) (b n : Nat) (g : Int → Option Int) : Prop :=
  ∃ D : DataW Unit, w.ownsMap Try.prog 3 (plainElem Try.prog 3) b n D ∧ ∀ x, Maps.has D (.int .i64 x) = (g x).isSome ∧ D.atKey (.int .i64 x) (.lit (.int .i64 0)) = .lit (.int .i64 ((g x).getD 0))
/-- Block b is a map of at most n entries, from ints to Bools: at x one reads g x. -/
def BMap (w : World) (b n : Nat) (g : Int → Bool) : Prop :=
  ∃ D : DataW Unit, w.ownsMap Try.prog 3 (plainElem Try.prog 4) b n D ∧ ∀ x, D.atKey (.int .i64 x) (.lit (.bool false)) = .lit (.bool (g x))

section
variable {w x y : World} {b n : Nat} {g : Int → Option Int} {f : Int → Bool} {S : Nat → Prop}
theorem owns_chg {k : TypeId} {R : Value → Option (DataW Unit × List MemPlace)} {D : DataW Unit} (h : w.ownsMap Try.prog k R b n D) (hc : Chg S w x) (hs : ¬ S b) : x.ownsMap Try.prog k R b n D := by
  have hl := h.lt
  obtain ⟨es, clock, hb, r⟩ := h
  exact ⟨es, clock, (hc.block b hl hs).trans hb, r⟩
theorem IMap.chg (h : IMap w b n g) (hc : Chg S w x) (hs : ¬ S b) : IMap x b n g := by
  obtain ⟨D, h1, h2⟩ := h
  exact ⟨D, owns_chg h1 hc hs, h2⟩
theorem BMap.chg (h : BMap w b n f) (hc : Chg S w x) (hs : ¬ S b) : BMap x b n f := by
  obtain ⟨D, h1, h2⟩ := h
  exact ⟨D, owns_chg h1 hc hs, h2⟩
theorem IMap.lt (h : IMap w b n g) : b < w.heap.size := by obtain ⟨D, h1, _⟩ := h; exact h1.lt
theorem BMap.lt (h : BMap w b n f) : b < w.heap.size := by obtain ⟨D, h1, _⟩ := h; exact h1.lt
theorem IMap.below {m : Nat} (h : IMap w b n g) (hb : Below m w x) (hl : b < m) : IMap x b n g := by
  obtain ⟨D, h1, h2⟩ := h
  obtain ⟨es, clock, e, r⟩ := h1
  exact ⟨D, ⟨es, clock, (hb.block b hl).trans e, r⟩, h2⟩
theorem BMap.below {m : Nat} (h : BMap w b n f) (hb : Below m w x) (hl : b < m) : BMap x b n f := by
  obtain ⟨D, h1, h2⟩ := h
  obtain ⟨es, clock, e, r⟩ := h1
  exact ⟨D, ⟨es, clock, (hb.block b hl).trans e, r⟩, h2⟩
theorem IMap.on (h : IMap w b n g) (hb : Below w.heap.size w x) : IMap x b n g := h.below hb h.lt
theorem BMap.on (h : BMap w b n f) (hb : Below w.heap.size w x) : BMap x b n f := h.below hb h.lt
theorem IMap.new (w : World) : IMap (w.alloc (.map #[] 0)) w.heap.size 0 (fun _ => none) :=
  ⟨.map [], World.ownsMap_made _ _ _ _, fun x => ⟨rfl, rfl⟩⟩
theorem BMap.new (w : World) : BMap (w.alloc (.map #[] 0)) w.heap.size 0 (fun _ => false) :=
  ⟨.map [], World.ownsMap_made _ _ _ _, fun x => rfl⟩
theorem IMap.same {g' : Int → Option Int} (h : IMap w b n g) (e : ∀ x, g' x = g x) : IMap w b n g' := by rw [show g' = g from funext e]; exact h
theorem BMap.same {f' : Int → Bool} (h : BMap w b n f) (e : ∀ x, f' x = f x) : BMap w b n f' := by rw [show f' = f from funext e]; exact h
theorem IMap.mono {m : Nat} (h : IMap w b n g) (hm : n ≤ m) : IMap w b m g := by obtain ⟨D, h1, h2⟩ := h; exact ⟨D, h1.mono hm, h2⟩
theorem BMap.mono {m : Nat} (h : BMap w b n f) (hm : n ≤ m) : BMap w b m f := by obtain ⟨D, h1, h2⟩ := h; exact ⟨D, h1.mono hm, h2⟩

theorem plain_bool_inv {P : Program} {e : TypeId} (he : P.underlying e = some .bool) {v : Value} {z : DataW Unit × List MemPlace} (h : plainElem P e v = some z) : ∃ c, v = .bool c ∧ z = (.lit (.bool c), []) := by
  unfold plainElem at h
  rw [he] at h
  cases v <;> simp at h
  exact ⟨_, rfl, h.symm⟩
theorem isKeyI (x : Int) : WideAt.IsKeyLit (.int .i64 x) := trivial

theorem IMap.store {key val : Int} (h : IMap w b n g) (hn : n < maxLen) (hk : -9223372036854775808 ≤ key ∧ key ≤ 9223372036854775807) (hv : -9223372036854775808 ≤ val ∧ val ≤ 9223372036854775807) :
    ∃ w', (Instr.mapUpdate 74 (.map (some b)) (.int .i64 key) (.int .i64 val)).run Try.prog w = .ok () w' ∧ IMap w' b (n + 1) (fun x => if x = key then some val else g x) ∧ Chg (· = b) w w' := by
  obtain ⟨D, h1, h2⟩ := h
  obtain ⟨w', hr, h3, hg⟩ := h1.update keyI Try.underlying74 hn (keyOfI hk) (plainElem_int Try.underlying3 (wfI hv))
  refine ⟨w', hr, ⟨_, h3, fun x => ?_⟩, Chg.of_grown hg fun k e => by injection e⟩
  dsimp only
  by_cases e : x = key
  · subst e
    rw [if_pos rfl]
    exact ⟨Maps.has_put_same h1.isMap (isKeyI _) _, Maps.atKey_put_same h1.isMap (isKeyI _) _ _⟩
  · have hne : Lit.int .i64 x ≠ .int .i64 key := fun e' => e (by injection e')
    rw [if_neg e, Maps.has_put_other hne, Maps.atKey_put_other hne]
    exact h2 x
theorem BMap.store {key : Int} {val : Bool} (h : BMap w b n f) (hn : n < maxLen) (hk : -9223372036854775808 ≤ key ∧ key ≤ 9223372036854775807) :
    ∃ w', (Instr.mapUpdate 34 (.map (some b)) (.int .i64 key) (.bool val)).run Try.prog w = .ok () w' ∧ BMap w' b (n + 1) (fun x => if x = key then val else f x) ∧ Chg (· = b) w w' := by
  obtain ⟨D, h1, h2⟩ := h
  obtain ⟨w', hr, h3, hg⟩ := h1.update keyI Try.underlying34 hn (keyOfI hk) (plainElem_bool Try.underlying4 val)
  refine ⟨w', hr, ⟨_, h3, fun x => ?_⟩, Chg.of_grown hg fun k e => by injection e⟩
  dsimp only
  by_cases e : x = key
  · subst e
    rw [if_pos rfl]
    exact Maps.atKey_put_same h1.isMap (isKeyI _) _ _
  · have hne : Lit.int .i64 x ≠ .int .i64 key := fun e' => e (by injection e')
    rw [if_neg e, Maps.atKey_put_other hne]
    exact h2 x
theorem IMap.find {key : Int} (h : IMap w b n g) (hk : -9223372036854775808 ≤ key ∧ key ≤ 9223372036854775807) :
    (Instr.lookup 74 (.map (some b)) (.int .i64 key) true).run Try.prog w = .ok (.tuple #[.int .i64 ((g key).getD 0), .bool (g key).isSome]) w := by
  obtain ⟨D, h1, h2⟩ := h
  obtain ⟨v, ps, hr, hv⟩ := h1.look_ok keyI Try.underlying74 (zeroI w) (plainElem_int Try.underlying3 (by decide)) (keyOfI hk)
  rw [(h2 key).2] at hv
  obtain ⟨c, rfl, hc, _⟩ := plainElem_int_inv Try.underlying3 hv
  replace hc : ((g key).getD 0) = c := by simpa using congrArg Prod.fst hc
  have e : Result.ok (Value.tuple #[.int .i64 c, .bool (Maps.has D (.int .i64 key))]) w = .ok (.tuple #[.int .i64 ((g key).getD 0), .bool (g key).isSome]) w := by rw [(h2 key).1, hc]
  exact hr.trans e
theorem BMap.find {key : Int} (h : BMap w b n f) (hk : -9223372036854775808 ≤ key ∧ key ≤ 9223372036854775807) :
    (Instr.lookup 34 (.map (some b)) (.int .i64 key) false).run Try.prog w = .ok (.bool (f key)) w := by
  obtain ⟨D, h1, h2⟩ := h
  obtain ⟨v, ps, hr, hv⟩ := h1.lookup keyI Try.underlying34 (zeroB w) (plainElem_bool Try.underlying4 false) (keyOfI hk)
  rw [h2 key] at hv
  obtain ⟨c, rfl, hc⟩ := plain_bool_inv Try.underlying4 hv
  replace hc : f key = c := by simpa using congrArg Prod.fst hc
  have e : Result.ok (Value.bool c) w = .ok (.bool (f key)) w := by rw [hc]
  exact hr.trans e
end

section
variable {w : World} {ops : Array Oper} {rest : List Oper} {o : Oper} {a : Act} {Q : Exit → Act → World → Prop} {b n : Nat} {g : Int → Option Int} {f : Int → Bool} {key : Int}
/-- 'v, ok := m[k]' at the operation. -/
theorem wpList_imap_find (hg : o.guard = none) (m x : Operand) (hop : o.op = Op.lookup 74 m x true) (hm : a.eval m = .map (some b)) (h : IMap w b n g) (hx : a.eval x = .int .i64 key) (hk : -9223372036854775808 ≤ key ∧ key ≤ 9223372036854775807)
    (hK : wpList Try.prog ops Q rest (a.put o.dst (.tuple #[.int .i64 ((g key).getD 0), .bool (g key).isSome])) w) : wpList Try.prog ops Q (o :: rest) a w := by
  refine wpList_plain hg fun K' hK' => ?_
  have hr := h.find hk
  unfold Oper.wp
  simp [execOp, hop, hm, hx, hr, Result.andThen]
  exact hK' _ _ hK
theorem wpList_bmap_find (hg : o.guard = none) (m x : Operand) (hop : o.op = Op.lookup 34 m x false) (hm : a.eval m = .map (some b)) (h : BMap w b n f) (hx : a.eval x = .int .i64 key) (hk : -9223372036854775808 ≤ key ∧ key ≤ 9223372036854775807)
    (hK : wpList Try.prog ops Q rest (a.put o.dst (.bool (f key))) w) : wpList Try.prog ops Q (o :: rest) a w := by
  refine wpList_plain hg fun K' hK' => ?_
  have hr := h.find hk
  unfold Oper.wp
  simp [execOp, hop, hm, hx, hr, Result.andThen]
  exact hK' _ _ hK
theorem wpList_bmap_store {val : Bool} (hg : o.guard = none) (m x v : Operand) (hop : o.op = Op.mapUpdate 34 m x v) (hm : a.eval m = .map (some b)) (h : BMap w b n f) (hn : n < maxLen) (hx : a.eval x = .int .i64 key) (hv : a.eval v = .bool val) (hk : -9223372036854775808 ≤ key ∧ key ≤ 9223372036854775807)
    (hK : ∀ w', BMap w' b (n + 1) (fun x => if x = key then val else f x) → Chg (· = b) w w' → wpList Try.prog ops Q rest (a.put o.dst undef) w') : wpList Try.prog ops Q (o :: rest) a w := by
  refine wpList_plain hg fun K' hK' => ?_
  obtain ⟨w', hr, h1, h2⟩ := h.store (val := val) hn hk
  unfold Oper.wp
  simp [execOp, hop, hm, hx, hv, hr, Result.andThen]
  exact hK' _ _ (hK w' h1 h2)
/-- 'm[k] = v' at a step of a region that draws its order. -/
theorem step_imap_store {K : Act → World → Prop} {E : Prop} {val : Int} (hg : o.guard = none) (m x v : Operand) (hop : o.op = Op.mapUpdate 74 m x v) (hm : a.eval m = .map (some b)) (h : IMap w b n g) (hn : n < maxLen)
    (hx : a.eval x = .int .i64 key) (hv : a.eval v = .int .i64 val) (hk : -9223372036854775808 ≤ key ∧ key ≤ 9223372036854775807) (hk' : -9223372036854775808 ≤ val ∧ val ≤ 9223372036854775807)
    (hK : ∀ w', IMap w' b (n + 1) (fun x => if x = key then some val else g x) → Chg (· = b) w w' → K (a.put o.dst undef) w') :
    if Region.wanted o (yielded ops a.tmps) = true then Oper.wp Try.prog o a w K Q else E := by
  rw [if_pos (by simp [Region.wanted, hg])]
  obtain ⟨w', hr, h1, h2⟩ := h.store hn hk hk'
  unfold Oper.wp
  simp [execOp, hop, hm, hx, hv, hr, Result.andThen]
  exact hK w' h1 h2
end

end Go.Proofs.Ytceedbkacbaaiaa
