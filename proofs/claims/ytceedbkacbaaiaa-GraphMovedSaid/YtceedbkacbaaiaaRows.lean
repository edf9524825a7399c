/-
  No cell of these rows narrows 'for every input' (looked for: loops, veiled, ifaces, maps, wideKeys, modest, calm, conditions, laid).
  DERIVED. THE GIVEN ROWS OF THIS SEAT. 3 by the template 'for every input the law returns true; each argument reads behind the call as it read before'; 0 by the template 'total and deterministic' (their statements: YtceedbkacbaaiaaTotals.lean).
  GIVEN WITH THE SEED: the statements are not yours to turn. If you find one false, say at which input.
  Laid BY PROGRAM, IN A SANDBOX (cutbox-rows.mjs): the forced cells as the released guide's own fill.sh prints them over the translation f50efea2c82b90a2… (all of the seat's roots in one cut). By AI agents, Wed Nov 11 2026. No macro, syntax, notation, axiom, sorry.
-/
import Derived.Test.YtceedbkacbaaiaaChecked
import GoSem.Claim
import GoSem.ClaimJoined
import GoSem.ClaimMapViews
import Derived.JoinedTies
import Derived.KernelRfl
namespace Go.Proofs.Ytceedbkacbaaiaa
/- THE CELL 'sum', in the pinned program and in every row, IS THE sha256 OF THE DUMP (.gsa) THAT YtceedbkacbaaiaaProg.lean LOADS. Nothing in Lean hashes anything: it is a label: what it is worth is what the hold of that sum in a sandbox is worth. -/
noncomputable def Try.pinned : Pinned := { name := "ytceedbkacbaaiaa", sum := "f50efea2c82b90a2fc6373af57fc0e4cfce2e8a3991616d2e9da59bb19b33eb2", checked := Try.checked }
namespace Rows
def none {H : Type} : Left H := { results := [], args := [] }

/-- 'middenheaplaw09.GraphClosed': WHATEVER THE INPUT: true; the input reads as it did. -/
def graphClosedSpec : ChangeSpec := { name := "graphClosed", fn := fun _ => fun
  | [d1, d2] => { results := [.lit (.bool true)], args := [d1, d2] }
  | _ => none }
def graphClosedRow : OpenClaim := { program := "ytceedbkacbaaiaa", sum := "f50efea2c82b90a2fc6373af57fc0e4cfce2e8a3991616d2e9da59bb19b33eb2", func := "middenheap/middenheaplaw09.GraphClosed", spec := "graphClosed", unfollowed := true, recurses := true, apart := false }
def GraphClosedSaid : Prop := graphClosedRow.holds Try.pinned (OpenSpec.ofChange graphClosedSpec)

/-- ITS FALSE NEIGHBOUR: 'it returns false'. Refute it at one input. -/
def graphClosedWrong : ChangeSpec := { name := "graphClosed", fn := fun _ => fun
  | [d1, d2] => { results := [.lit (.bool false)], args := [d1, d2] }
  | _ => none }
def GraphClosedWrongFalsely : Prop := graphClosedRow.holds Try.pinned (OpenSpec.ofChange graphClosedWrong)

/-- 'middenheaplaw09.GraphMoved': WHATEVER THE INPUT: true; the input reads as it did. -/
def graphMovedSpec : ChangeSpec := { name := "graphMoved", fn := fun _ => fun
  | [d1, d2, d3] => { results := [.lit (.bool true)], args := [d1, d2, d3] }
  | _ => none }
def graphMovedRow : OpenClaim := { program := "ytceedbkacbaaiaa", sum := "f50efea2c82b90a2fc6373af57fc0e4cfce2e8a3991616d2e9da59bb19b33eb2", func := "middenheap/middenheaplaw09.GraphMoved", spec := "graphMoved", unfollowed := true, recurses := true, apart := false }
def GraphMovedSaid : Prop := graphMovedRow.holds Try.pinned (OpenSpec.ofChange graphMovedSpec)

/-- ITS FALSE NEIGHBOUR: 'it returns false'. Refute it at one input. -/
def graphMovedWrong : ChangeSpec := { name := "graphMoved", fn := fun _ => fun
  | [d1, d2, d3] => { results := [.lit (.bool false)], args := [d1, d2, d3] }
  | _ => none }
def GraphMovedWrongFalsely : Prop := graphMovedRow.holds Try.pinned (OpenSpec.ofChange graphMovedWrong)

/-- 'middenheaplaw09.GraphRoots': WHATEVER THE INPUT: true; the input reads as it did. -/
def graphRootsSpec : ChangeSpec := { name := "graphRoots", fn := fun _ => fun
  | [d1, d2, d3] => { results := [.lit (.bool true)], args := [d1, d2, d3] }
  | _ => none }
def graphRootsRow : OpenClaim := { program := "ytceedbkacbaaiaa", sum := "f50efea2c82b90a2fc6373af57fc0e4cfce2e8a3991616d2e9da59bb19b33eb2", func := "middenheap/middenheaplaw09.GraphRoots", spec := "graphRoots", unfollowed := true, recurses := true, apart := false }
def GraphRootsSaid : Prop := graphRootsRow.holds Try.pinned (OpenSpec.ofChange graphRootsSpec)

/-- ITS FALSE NEIGHBOUR: 'it returns false'. Refute it at one input. -/
def graphRootsWrong : ChangeSpec := { name := "graphRoots", fn := fun _ => fun
  | [d1, d2, d3] => { results := [.lit (.bool false)], args := [d1, d2, d3] }
  | _ => none }
def GraphRootsWrongFalsely : Prop := graphRootsRow.holds Try.pinned (OpenSpec.ofChange graphRootsWrong)

/- THE SECOND FORM. 'bulk': how many values and letters a reading holds, each counted each time it is reached (what is shared counts as often as it is met; a slice's spare places count too). A statement '..UptoSaid' is the law's where the arguments, and the package variables that the reading takes, are together of bulk at most 1048576: NARROWER than '..Said'. Prove '..Said' where nothing that the law and all that it calls make is longer than what came in: it says more and counts as full. Else prove '..UptoSaid'. A law counts once. -/
mutual
def uptoBulk {H : Type} : DataW H → Nat
  | .lit (.string bytes) => bytes.length + 1
  | .lit _ => 1
  | .nil => 1
  | .ptr d => uptoBulk d + 1
  | .slice elems spare => uptoBulkAll elems + uptoBulkAll spare + 1
  | .agg parts => uptoBulkAll parts + 1
  | .iface _ d => uptoBulk d + 1
  | .map entries => uptoBulkEntries entries + 1
  | .held _ => 1
def uptoBulkAll {H : Type} : List (DataW H) → Nat
  | [] => 0
  | d :: r => uptoBulk d + uptoBulkAll r
def uptoBulkEntries {H : Type} : List (Lit × DataW H) → Nat
  | [] => 0
  | x :: r => uptoBulkEntry x + uptoBulkEntries r
def uptoBulkEntry {H : Type} : Lit × DataW H → Nat
  | (.string bytes, d) => bytes.length + uptoBulk d + 1
  | (_, d) => uptoBulk d + 1
 end
def uptoSmall : (H : Type) → List (DataW H) → Bool := fun _ ds => decide (uptoBulkAll ds ≤ 1048576)
def OpenSpec.upto (s : _root_.Go.ChangeSpec) : _root_.Go.OpenSpec := { _root_.Go.OpenSpec.ofChange s with cond := some uptoSmall }

/-- 'middenheaplaw09.GraphClosed', WHERE WHAT IT READS IS OF BULK AT MOST 1048576: true; the input reads as it did. -/
def graphClosedUptoRow : OpenClaim := { program := "ytceedbkacbaaiaa", sum := "f50efea2c82b90a2fc6373af57fc0e4cfce2e8a3991616d2e9da59bb19b33eb2", func := "middenheap/middenheaplaw09.GraphClosed", spec := "graphClosed", unfollowed := true, recurses := true, apart := false, narrowed := true }
def GraphClosedUptoSaid : Prop := graphClosedUptoRow.holds Try.pinned (OpenSpec.upto graphClosedSpec)

/-- 'middenheaplaw09.GraphMoved', WHERE WHAT IT READS IS OF BULK AT MOST 1048576: true; the input reads as it did. -/
def graphMovedUptoRow : OpenClaim := { program := "ytceedbkacbaaiaa", sum := "f50efea2c82b90a2fc6373af57fc0e4cfce2e8a3991616d2e9da59bb19b33eb2", func := "middenheap/middenheaplaw09.GraphMoved", spec := "graphMoved", unfollowed := true, recurses := true, apart := false, narrowed := true }
def GraphMovedUptoSaid : Prop := graphMovedUptoRow.holds Try.pinned (OpenSpec.upto graphMovedSpec)

/-- 'middenheaplaw09.GraphRoots', WHERE WHAT IT READS IS OF BULK AT MOST 1048576: true; the input reads as it did. -/
def graphRootsUptoRow : OpenClaim := { program := "ytceedbkacbaaiaa", sum := "f50efea2c82b90a2fc6373af57fc0e4cfce2e8a3991616d2e9da59bb19b33eb2", func := "middenheap/middenheaplaw09.GraphRoots", spec := "graphRoots", unfollowed := true, recurses := true, apart := false, narrowed := true }
def GraphRootsUptoSaid : Prop := graphRootsUptoRow.holds Try.pinned (OpenSpec.upto graphRootsSpec)

end Rows
end Go.Proofs.Ytceedbkacbaaiaa
