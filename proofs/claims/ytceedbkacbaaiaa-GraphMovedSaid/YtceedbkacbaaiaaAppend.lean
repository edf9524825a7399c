/- A row of the call's own is appended to, from a list that is read, nil or not. Plain; no condition. -/
import Derived.Test.YtceedbkacbaaiaaGraphLaw
import Derived.Deep.AppendSrc
namespace Go.Proofs.Ytceedbkacbaaiaa
open Go.RowKit
set_option linter.unusedSimpArgs false
set_option linter.unusedVariables false

theorem run_append_nil {w : World} {base n c : Nat} {v : Value} {xs : List Value} (h : w.ownsRow base 3 1 v n xs) (ty : TypeId) :
    (Builtin.append_ #[23, 23] ty #[v, .slice none 0 c]).run Try.prog w = .ok v w := by
  obtain ⟨i0, hi, hz0, hz1, hz2⟩ := info_parts infoInt
  have hs := Src.ofNil (P := Try.prog) w (size := i0.size) Try.underlying23 c
  rcases h.2 with ⟨rfl, rfl⟩ | ⟨g, cap, cur, rfl, hb, hh, hnc, hcm, _⟩
  · simp [Builtin.append_, run_underlying Try.underlying23, sizeOf, typeInfo, hi, hs.len, hs.cells]
  · have hr := run_append_room_src (P := Try.prog) w 23 23 ty 3 i0 Try.underlying23 hi g 0 n cap _ 0 [] hs (by omega) (fun j hj => by simp at hj) (fun j hj => by simp at hj)
    have e : ∀ (a k : Nat), w.setCells a k [] = w := fun _ _ => rfl
    rw [e] at hr
    simpa using hr

theorem wpList_append_reads {w : World} {ops : Array Oper} {rest : List Oper} {o : Oper} {a : Act} {Q : Exit → Act → World → Prop} (hg : o.guard = none) (s x : Operand)
    (hop : o.op = .call { callee := .builtin .append, args := #[s, x], argTypes := #[23, 23] }) (base : Nat) (v u : Value) (xs zs : List Int) (hs : a.eval s = v) (h : w.ownsRow base 3 1 v xs.length (xs.map (Value.int .i64))) (hx : a.eval x = u) (hu : ReadsAs .i64 w u zs)
    (hn : xs.length + zs.length ≤ 100000) (hb : base ≤ w.heap.size)
    (hK : ∀ v' w', w'.ownsRow base 3 1 v' (xs ++ zs).length ((xs ++ zs).map (Value.int .i64)) → w.grownBy w' v.ownBlock → wpList Try.prog ops Q rest (a.put o.dst v') w') : wpList Try.prog ops Q (o :: rest) a w := by
  obtain ⟨i0, hi, hz0, hz1, hz2⟩ := info_parts infoInt
  have go : ∀ (ad : Addr) (m c : Nat), m = zs.length → a.eval x = .slice (some ad) m c → (∀ j u, (zs.map (Value.int .i64))[j]? = some u → w.cell? (ad.add j) = some u) → wpList Try.prog ops Q (o :: rest) a w := by
    intro ad m c hm hx' hnews
    subst hm
    refine wpList_append_own w hg s x 23 hop base 3 i0 (.int .i64 0) 1 8 Try.underlying23 hi hz0 hz1 hz2 rfl (by decide) v xs.length _ hs h ad zs.length c (zs.map (Value.int .i64)) hx' (by simp) hnews (fun u hu => ?_) (by unfold maxLen; omega) (by omega) hb ?_
    · obtain ⟨z, _, rfl⟩ := List.mem_map.1 hu
      rfl
    · intro v' w' ho hgr _
      refine hK v' w' ?_ hgr
      rw [List.length_append, List.map_append]
      exact ho
  rcases hu.2 with ⟨rfl, c, rfl⟩ | ⟨g, c, rfl, hc, hgl, hr⟩
  · refine wpList_plain hg fun K' hK' => ?_
    have hr := run_append_nil (c := c) h o.type
    unfold Oper.wp
    simp [execOp, hop, resolve, invoke, builtin, hs, hx, hr, Result.andThen]
    exact hK' _ _ (hK v w (by simpa using h) ⟨rfl, rfl, rfl, Nat.le_refl _, fun _ _ _ => rfl⟩)
  · refine go ⟨g, 0, none⟩ zs.length c rfl hx fun j u hj => ?_
    have hjl : j < zs.length := by
      rcases Nat.lt_or_ge j zs.length with h | h
      · exact h
      · rw [List.getElem?_eq_none (by simpa using h)] at hj; simp at hj
    have e : (⟨g, 0, none⟩ : Addr).add j = ⟨g, j, none⟩ := by unfold Addr.add; split <;> simp_all
    rw [e, hr j hjl, ← hj]
    simp [List.getD, hjl]

end Go.Proofs.Ytceedbkacbaaiaa
