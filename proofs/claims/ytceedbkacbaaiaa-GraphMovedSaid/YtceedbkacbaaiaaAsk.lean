/- An iterator without an end of its own, and a loop over it that leaves off: the k-th round is told the k-th answer; that the loop leaves off is the caller's word (its rule holds for fewer than M rounds alone). Under wpIn_rangeFunc. -/
import Derived.RangeFuncNested
import Derived.RangeFuncBound
import Derived.RangeFuncCalls
import Derived.RangeFuncLeaves
namespace Go.Proofs.Ytceedbkacbaaiaa
open Go.RowKit

/-- The iterator hands yield its k-th answer at the k-th call, and goes on as long as yield says so: at most M times. -/
def Asked (F : Fence) (n : Nat) (P : Program) (g : Nat) (lb : Array Value) (ask : Nat → Array Value) (M : Nat) (w : World) : Prop :=
  ∀ (l : Nat) (J Jx : Nat → World → Prop) (W : World), Below w.heap.size w W → (∀ k V, J k V → k < M) →
    (∀ k V, J k V → YieldAt F (n - 1) P l (ask k) V fun e V' => (e = .returned (.bool true) ∧ J (k + 1) V') ∨ (e = .returned (.bool false) ∧ Jx k V')) → J 0 W →
    CallsIn F n P g (#[.func (.yield l) #[] #[]] ++ lb) W fun e V => (∃ v, e = .returned v) ∧ ∃ k, Jx k V

/-- How the body of the k-th round may be left: it goes on, or it leaves the loop by c. -/
def askPost (B : Nat) (I : Nat → World → Prop) (Ix : Code → Nat → World → Prop) (k : Nat) (V : World) : Exit → Act → World → Prop
  | .normal, _, V' => KeepsFrom B V V' ∧ I (k + 1) V'
  | .ret, _, V' => KeepsFrom B V V' ∧ Ix .ret k V'
  | .exit id, _, V' => KeepsFrom B V V' ∧ Ix (.exit id) k V'
  | _, _, _ => False

theorem range_asked {F : Fence} {n : Nat} {P : Program} {g : Operand} {ps : Array Tmp} {assign body : Code} {Q : Exit → Act → World → Prop} {a : Act} {w : World}
    (hro : F.round = none) (h1 : 1 ≤ n) {gf : Nat} {lb : Array Value} (hg : a.eval g = .func (.func gf) #[] lb) (hF : F.fn gf) (hent : ∀ args w, (callFunc gf args).run P w = .ok (.enter gf args) w)
    {ask : Nat → Array Value} {M : Nat} (hask : Asked F (n - 1) P gf lb ask M w) (hps : ∀ k, (ask k).size = ps.size) (I : Nat → World → Prop) (Ix : Code → Nat → World → Prop)
    (hI : OwnFrom w.heap.size I) (hIx : ∀ c, OwnFrom w.heap.size (Ix c)) (hM : ∀ k V, I k V → k < M) (h0 : I 0 w) (row : Nat → Act)
    (hassign : ∀ (l k : Nat) (V : World) (K : Act → World → Prop), I k V → K (row k) V →
      assign.wpIn (F.inRound l) (n - 1 - 1) P (Exit.then K (fun _ _ _ => False)) { tmps := (ps.zip (ask k)).foldl (fun t (p, v) => t.setIfInBounds p v) a.tmps, defers := [] } V)
    (hbody : ∀ (l k : Nat) (V : World), w.heap.size ≤ l → I k V → body.wpIn (F.inRound l) (n - 1 - 1) P (askPost w.heap.size I Ix k V) (row k) V)
    (hstop : ∀ (D : Nat) (c : Code) (k : Nat) (V : World), w.heap.size ≤ D → Ix c k V → V.heap[D]? = some (.deferred (some [])) →
      c.wpIn F n P Q { a with defers := { target := .collected D, args := #[] } :: a.defers } V) :
    (Code.rangeFunc g ps assign body).wpIn F n P Q a w := by
  refine wpIn_rangeFunc fun fn hfn => ?_
  rw [hro]
  -- the record of the loop, in state s with jump j
  let R : LoopState → Option Code → Loop := fun s j => { state := s, pending := j, fn, tmps := a.tmps, params := ps, assign, body, defers := w.heap.size }
  let W := (w.alloc (.deferred (some []))).alloc (.loop (R .ready none))
  -- what of the books lies where while the iterator runs
  let Books : LoopState → Option Code → World → Prop := fun s j V => V.heap[w.heap.size + 1]? = some (.loop (R s j)) ∧ V.heap[w.heap.size]? = some (.deferred (some []))
  have hBooks0 : Books .ready none W := by
    constructor
    · have := World.alloc_heap_new (w.alloc (.deferred (some []))) (.loop (R .ready none))
      rwa [World.size_alloc] at this
    · exact (Below.heap_alloc _ _ _ (by simp)).trans (World.alloc_heap_new w _)
  -- one turn of the record keeps the caller's facts and the other book
  have turn : ∀ {s s' : LoopState} {j j' : Option Code} {V : World}, Books s j V →
      Books s' j' (V.putObj (w.heap.size + 1) (.loop (R s' j'))) := fun h =>
    ⟨World.putObj_heap_same (Array.getElem?_eq_some_iff.1 h.1).1, (World.putObj_heap_other (by omega)).trans h.2⟩
  have keep : ∀ {s : LoopState} {j : Option Code} {V V' : World}, Books s j V → KeepsFrom w.heap.size V V' → Books s j V' := fun h k =>
    ⟨k.same _ _ (by omega) h.1 rfl, k.same _ _ (Nat.le_refl _) h.2 rfl⟩
  have stay : ∀ {J : Nat → World → Prop} {s : LoopState} {j : Option Code} {k : Nat} {V : World} (o : Obj), OwnFrom w.heap.size J → Books s j V → J k V → J k (V.putObj (w.heap.size + 1) o) := fun o hJ h hj =>
    hJ.putObj o hj (by omega) h.1 rfl
  refine ⟨w.heap.size + 1, [{ target := .collected w.heap.size, args := #[] }], W, { target := .fn (.func gf) lb, args := #[.func (.yield (w.heap.size + 1)) #[] #[]] }, W, gf,
    #[.func (.yield (w.heap.size + 1)) #[] #[]] ++ lb, W, run_enterLoop_outer _ _ _ _ _, ?_, ?_, ?_, fun _ => h1, ?_⟩
  · simp only [resolve, hg]
    simp [go_sem]
  · intro f' hf'
    simp [Target.leads] at hf'
    exact hf' ▸ hF
  · simp [invoke, go_sem, hent]
  refine (hask (w.heap.size + 1) (fun k V => I k V ∧ Books .ready none V) (fun k V => ∃ c, Ix c k V ∧ Books .done (some c) V) W ?_ (fun k V h => hM k V h.1) ?_ ⟨?_, hBooks0⟩).mono ?_
  · exact ((Below.refl _ w).alloc (Nat.le_refl _) _).alloc (by simp) _
  · -- a round
    rintro k V ⟨hi, hb⟩
    refine ⟨fn, _, assign, body, run_yield (P := P) (args := ask k) hb.1 (hps k), roundIn_of_wpIn hfn (hassign _ k V _ hi ?_)⟩
    refine ⟨_, run_beginRound hb.1 rfl, ?_⟩
    have hb1 : Books .busy none (V.putObj (w.heap.size + 1) (.loop (R .busy none))) := turn hb
    refine wpIn_mono (hbody _ k _ (by omega) (stay _ hI hb hi)) ?_
    rintro e a' V' hp
    cases e with
    | normal =>
      obtain ⟨hk, hi'⟩ := hp
      have hb2 := keep hb1 hk
      exact ⟨_, _, run_endRound none hb2.1, .inl ⟨rfl, stay _ hI hb2 hi', turn hb2⟩⟩
    | ret =>
      obtain ⟨hk, hi'⟩ := hp
      have hb2 := keep hb1 hk
      exact ⟨_, _, run_endRound (some .ret) hb2.1, .inr ⟨rfl, .ret, stay _ (hIx _) hb2 hi', turn hb2⟩⟩
    | exit id =>
      obtain ⟨hk, hi'⟩ := hp
      have hb2 := keep hb1 hk
      exact ⟨_, _, run_endRound (some (.exit id)) hb2.1, .inr ⟨rfl, .exit id, stay _ (hIx _) hb2 hi', turn hb2⟩⟩
    | goto t => exact hp.elim
    | panic ch => exact hp.elim
    | outgrown => exact hp.elim
  · exact hI.alloc _ (hI.alloc _ h0)
  · -- behind the iterator
    rintro e V ⟨⟨v, rfl⟩, k, c, hi, hb⟩
    exact ⟨some c, _, run_endLoop hb.1 (by simp [R]), hstop _ c k _ (Nat.le_refl _) (stay _ (hIx c) hb hi) ((World.putObj_heap_other (by omega)).trans hb.2)⟩

end Go.Proofs.Ytceedbkacbaaiaa
