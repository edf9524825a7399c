/-
  No cell of these rows narrows 'for every input' (looked for: loops, veiled, ifaces, maps, wideKeys, modest, calm, conditions, laid).
  DERIVED. THE GIVEN ROWS OF THIS SEAT. 4 by the template 'for every input the law returns true; each argument reads behind the call as it read before'; 0 by the template 'total and deterministic' (their statements: YtencoabgdnmbaaaTotals.lean).
  GIVEN WITH THE SEED: the statements are not yours to turn. If you find one false, say at which input.
  Laid BY PROGRAM, IN A SANDBOX (cutbox-rows.mjs): the forced cells as the released guide's own fill.sh prints them over the translation baa3288b644fd9d3… (all of the seat's roots in one cut). By AI agents, Wed Nov 11 2026. No macro, syntax, notation, axiom, sorry.
-/
import Derived.Test.YtencoabgdnmbaaaChecked
import GoSem.Claim
import GoSem.ClaimJoined
import GoSem.ClaimMapViews
import Derived.JoinedTies
import Derived.KernelRfl
namespace Go.Proofs.Ytencoabgdnmbaaa
/- THE CELL 'sum', in the pinned program and in every row, IS THE sha256 OF THE DUMP (.gsa) THAT YtencoabgdnmbaaaProg.lean LOADS. Nothing in Lean hashes anything: it is a label: what it is worth is what the hold of that sum in a sandbox is worth. -/
noncomputable def Try.pinned : Pinned := { name := "ytencoabgdnmbaaa", sum := "baa3288b644fd9d329677408eee57399b9dfdf5575634393f9b41c374e67f7a1", checked := Try.checked }
namespace Rows
def none {H : Type} : Left H := { results := [], args := [] }

/-- 'middenheaplaw07.ObjectSets': WHATEVER THE INPUT: true; the input reads as it did. -/
def objectSetsSpec : ChangeSpec := { name := "objectSets", fn := fun _ => fun
  | [d1, d2, d3] => { results := [.lit (.bool true)], args := [d1, d2, d3] }
  | _ => none }
def objectSetsRow : OpenClaim := { program := "ytencoabgdnmbaaa", sum := "baa3288b644fd9d329677408eee57399b9dfdf5575634393f9b41c374e67f7a1", func := "middenheap/middenheaplaw07.ObjectSets", spec := "objectSets", unfollowed := true, recurses := true, apart := false }
def ObjectSetsSaid : Prop := objectSetsRow.holds Try.pinned (OpenSpec.ofChange objectSetsSpec)

/-- ITS FALSE NEIGHBOUR: 'it returns false'. Refute it at one input. -/
def objectSetsWrong : ChangeSpec := { name := "objectSets", fn := fun _ => fun
  | [d1, d2, d3] => { results := [.lit (.bool false)], args := [d1, d2, d3] }
  | _ => none }
def ObjectSetsWrongFalsely : Prop := objectSetsRow.holds Try.pinned (OpenSpec.ofChange objectSetsWrong)

/-- 'middenheaplaw07.ObjectNew': WHATEVER THE INPUT: true; the input reads as it did. -/
def objectNewSpec : ChangeSpec := { name := "objectNew", fn := fun _ => fun
  | [d1, d2, d3] => { results := [.lit (.bool true)], args := [d1, d2, d3] }
  | _ => none }
def objectNewRow : OpenClaim := { program := "ytencoabgdnmbaaa", sum := "baa3288b644fd9d329677408eee57399b9dfdf5575634393f9b41c374e67f7a1", func := "middenheap/middenheaplaw07.ObjectNew", spec := "objectNew", unfollowed := true, recurses := true, apart := false }
def ObjectNewSaid : Prop := objectNewRow.holds Try.pinned (OpenSpec.ofChange objectNewSpec)

/-- ITS FALSE NEIGHBOUR: 'it returns false'. Refute it at one input. -/
def objectNewWrong : ChangeSpec := { name := "objectNew", fn := fun _ => fun
  | [d1, d2, d3] => { results := [.lit (.bool false)], args := [d1, d2, d3] }
  | _ => none }
def ObjectNewWrongFalsely : Prop := objectNewRow.holds Try.pinned (OpenSpec.ofChange objectNewWrong)

/-- 'middenheaplaw07.ObjectAgain': WHATEVER THE INPUT: true; the input reads as it did. -/
def objectAgainSpec : ChangeSpec := { name := "objectAgain", fn := fun _ => fun
  | [d1, d2, d3] => { results := [.lit (.bool true)], args := [d1, d2, d3] }
  | _ => none }
def objectAgainRow : OpenClaim := { program := "ytencoabgdnmbaaa", sum := "baa3288b644fd9d329677408eee57399b9dfdf5575634393f9b41c374e67f7a1", func := "middenheap/middenheaplaw07.ObjectAgain", spec := "objectAgain", unfollowed := true, recurses := true, apart := false }
def ObjectAgainSaid : Prop := objectAgainRow.holds Try.pinned (OpenSpec.ofChange objectAgainSpec)

/-- ITS FALSE NEIGHBOUR: 'it returns false'. Refute it at one input. -/
def objectAgainWrong : ChangeSpec := { name := "objectAgain", fn := fun _ => fun
  | [d1, d2, d3] => { results := [.lit (.bool false)], args := [d1, d2, d3] }
  | _ => none }
def ObjectAgainWrongFalsely : Prop := objectAgainRow.holds Try.pinned (OpenSpec.ofChange objectAgainWrong)

/-- 'middenheaplaw07.ObjectFields': WHATEVER THE INPUT: true; the input reads as it did. -/
def objectFieldsSpec : ChangeSpec := { name := "objectFields", fn := fun _ => fun
  | [d1, d2, d3] => { results := [.lit (.bool true)], args := [d1, d2, d3] }
  | _ => none }
def objectFieldsRow : OpenClaim := { program := "ytencoabgdnmbaaa", sum := "baa3288b644fd9d329677408eee57399b9dfdf5575634393f9b41c374e67f7a1", func := "middenheap/middenheaplaw07.ObjectFields", spec := "objectFields", unfollowed := true, recurses := true, apart := false }
def ObjectFieldsSaid : Prop := objectFieldsRow.holds Try.pinned (OpenSpec.ofChange objectFieldsSpec)

/-- ITS FALSE NEIGHBOUR: 'it returns false'. Refute it at one input. -/
def objectFieldsWrong : ChangeSpec := { name := "objectFields", fn := fun _ => fun
  | [d1, d2, d3] => { results := [.lit (.bool false)], args := [d1, d2, d3] }
  | _ => none }
def ObjectFieldsWrongFalsely : Prop := objectFieldsRow.holds Try.pinned (OpenSpec.ofChange objectFieldsWrong)

/- THE SECOND FORM. 'bulk': how many values and letters a reading holds, each counted each time it is reached (what is shared counts as often as it is met; a slice's spare places count too). A statement '..UptoSaid' is the law's where the arguments, and the package variables that the reading takes, are together of bulk at most 1048576: NARROWER than '..Said'. Prove '..Said' where nothing that the law and all that it calls make is longer than what came in: it says more and counts as full. Else prove '..UptoSaid'. A law counts once. -/
mutual
def uptoBulk {H : Type} : DataW H → Nat
  | .lit (.string bytes) => bytes.length + 1
  | .lit _ => 1
  | .nil => 1
  | .ptr d => uptoBulk d + 1
  | .slice elems spare => uptoBulkAll elems + uptoBulkAll spare + 1
  | .agg parts => uptoBulkAll parts + 1
  | .iface _ d => uptoBulk d + 1
  | .map entries => uptoBulkEntries entries + 1
  | .held _ => 1
def uptoBulkAll {H : Type} : List (DataW H) → Nat
  | [] => 0
  | d :: r => uptoBulk d + uptoBulkAll r
def uptoBulkEntries {H : Type} : List (Lit × DataW H) → Nat
  | [] => 0
  | x :: r => uptoBulkEntry x + uptoBulkEntries r
def uptoBulkEntry {H : Type} : Lit × DataW H → Nat
  | (.string bytes, d) => bytes.length + uptoBulk d + 1
  | (_, d) => uptoBulk d + 1
 end
def uptoSmall : (H : Type) → List (DataW H) → Bool := fun _ ds => decide (uptoBulkAll ds ≤ 1048576)
def OpenSpec.upto (s : _root_.Go.ChangeSpec) : _root_.Go.OpenSpec := { _root_.Go.OpenSpec.ofChange s with cond := some uptoSmall }

/-- 'middenheaplaw07.ObjectSets', WHERE WHAT IT READS IS OF BULK AT MOST 1048576: true; the input reads as it did. -/
def objectSetsUptoRow : OpenClaim := { program := "ytencoabgdnmbaaa", sum := "baa3288b644fd9d329677408eee57399b9dfdf5575634393f9b41c374e67f7a1", func := "middenheap/middenheaplaw07.ObjectSets", spec := "objectSets", unfollowed := true, recurses := true, apart := false, narrowed := true }
def ObjectSetsUptoSaid : Prop := objectSetsUptoRow.holds Try.pinned (OpenSpec.upto objectSetsSpec)

/-- 'middenheaplaw07.ObjectNew', WHERE WHAT IT READS IS OF BULK AT MOST 1048576: true; the input reads as it did. -/
def objectNewUptoRow : OpenClaim := { program := "ytencoabgdnmbaaa", sum := "baa3288b644fd9d329677408eee57399b9dfdf5575634393f9b41c374e67f7a1", func := "middenheap/middenheaplaw07.ObjectNew", spec := "objectNew", unfollowed := true, recurses := true, apart := false, narrowed := true }
def ObjectNewUptoSaid : Prop := objectNewUptoRow.holds Try.pinned (OpenSpec.upto objectNewSpec)

/-- 'middenheaplaw07.ObjectAgain', WHERE WHAT IT READS IS OF BULK AT MOST 1048576: true; the input reads as it did. -/
def objectAgainUptoRow : OpenClaim := { program := "ytencoabgdnmbaaa", sum := "baa3288b644fd9d329677408eee57399b9dfdf5575634393f9b41c374e67f7a1", func := "middenheap/middenheaplaw07.ObjectAgain", spec := "objectAgain", unfollowed := true, recurses := true, apart := false, narrowed := true }
def ObjectAgainUptoSaid : Prop := objectAgainUptoRow.holds Try.pinned (OpenSpec.upto objectAgainSpec)

/-- 'middenheaplaw07.ObjectFields', WHERE WHAT IT READS IS OF BULK AT MOST 1048576: true; the input reads as it did. -/
def objectFieldsUptoRow : OpenClaim := { program := "ytencoabgdnmbaaa", sum := "baa3288b644fd9d329677408eee57399b9dfdf5575634393f9b41c374e67f7a1", func := "middenheap/middenheaplaw07.ObjectFields", spec := "objectFields", unfollowed := true, recurses := true, apart := false, narrowed := true }
def ObjectFieldsUptoSaid : Prop := objectFieldsUptoRow.holds Try.pinned (OpenSpec.upto objectFieldsSpec)

end Rows
end Go.Proofs.Ytencoabgdnmbaaa
