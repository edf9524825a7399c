/-
  No cell of these rows narrows 'for every input' (looked for: loops, veiled, ifaces, maps, wideKeys, modest, calm, conditions, laid).
  DERIVED. THE GIVEN ROWS OF THIS SEAT. 9 by the template 'for every input the law returns true; each argument reads behind the call as it read before'; 0 by the template 'total and deterministic' (their statements: YtbjmeibcphmgbaaGreatTotals.lean).
  GIVEN WITH THE SEED: the statements are not yours to turn. If you find one false, say at which input.
  Laid BY PROGRAM, IN A SANDBOX (cutbox-rows.mjs): the forced cells as the released guide's own fill.sh prints them over the translation f5ea32e8a256b2bd… (all of the seat's roots in one cut). By AI agents, Wed Nov 11 2026. No macro, syntax, notation, axiom, sorry.
-/
import Derived.Test.YtbjmeibcphmgbaaGreatChecked
import GoSem.Claim
import GoSem.ClaimJoined
import GoSem.ClaimMapViews
import Derived.JoinedTies
import Derived.KernelRfl
namespace Go.Proofs.YtbjmeibcphmgbaaGreat
/- THE CELL 'sum', in the pinned program and in every row, IS THE sha256 OF THE DUMP (.gsa) THAT YtbjmeibcphmgbaaGreatProg.lean LOADS. Nothing in Lean hashes anything: it is a label: what it is worth is what the hold of that sum in a sandbox is worth. -/
noncomputable def Tryz.pinned : Pinned := { name := "ytbjmeibcphmgbaagreat", sum := "f5ea32e8a256b2bdb048db2a68fe8cdb1b4b473452edf0d9239df7c432005f93", checked := Tryz.checked }
namespace Rows
def none {H : Type} : Left H := { results := [], args := [] }

/-- 'middenheaplaw10.HeapTwins': WHATEVER THE INPUT: true; the input reads as it did. -/
def heapTwinsSpec : ChangeSpec := { name := "heapTwins", fn := fun _ => fun
  | [d] => { results := [.lit (.bool true)], args := [d] }
  | _ => none }
def heapTwinsRow : OpenClaim := { program := "ytbjmeibcphmgbaagreat", sum := "f5ea32e8a256b2bdb048db2a68fe8cdb1b4b473452edf0d9239df7c432005f93", func := "middenheap/middenheaplaw10.HeapTwins", spec := "heapTwins", unfollowed := true, recurses := true, apart := false }
def HeapTwinsSaid : Prop := heapTwinsRow.holds Tryz.pinned (OpenSpec.ofChange heapTwinsSpec)

/-- ITS FALSE NEIGHBOUR: 'it returns false'. Refute it at one input. -/
def heapTwinsWrong : ChangeSpec := { name := "heapTwins", fn := fun _ => fun
  | [d] => { results := [.lit (.bool false)], args := [d] }
  | _ => none }
def HeapTwinsWrongFalsely : Prop := heapTwinsRow.holds Tryz.pinned (OpenSpec.ofChange heapTwinsWrong)

/-- 'middenheaplaw10.HeapCollects': WHATEVER THE INPUT: true; the input reads as it did. -/
def heapCollectsSpec : ChangeSpec := { name := "heapCollects", fn := fun _ => fun
  | [d] => { results := [.lit (.bool true)], args := [d] }
  | _ => none }
def heapCollectsRow : OpenClaim := { program := "ytbjmeibcphmgbaagreat", sum := "f5ea32e8a256b2bdb048db2a68fe8cdb1b4b473452edf0d9239df7c432005f93", func := "middenheap/middenheaplaw10.HeapCollects", spec := "heapCollects", unfollowed := true, recurses := true, apart := false }
def HeapCollectsSaid : Prop := heapCollectsRow.holds Tryz.pinned (OpenSpec.ofChange heapCollectsSpec)

/-- ITS FALSE NEIGHBOUR: 'it returns false'. Refute it at one input. -/
def heapCollectsWrong : ChangeSpec := { name := "heapCollects", fn := fun _ => fun
  | [d] => { results := [.lit (.bool false)], args := [d] }
  | _ => none }
def HeapCollectsWrongFalsely : Prop := heapCollectsRow.holds Tryz.pinned (OpenSpec.ofChange heapCollectsWrong)

/-- 'middenheaplaw10.HeapFull': WHATEVER THE INPUT: true; the input reads as it did. -/
def heapFullSpec : ChangeSpec := { name := "heapFull", fn := fun _ => fun
  | [d1, d2] => { results := [.lit (.bool true)], args := [d1, d2] }
  | _ => none }
def heapFullRow : OpenClaim := { program := "ytbjmeibcphmgbaagreat", sum := "f5ea32e8a256b2bdb048db2a68fe8cdb1b4b473452edf0d9239df7c432005f93", func := "middenheap/middenheaplaw10.HeapFull", spec := "heapFull", unfollowed := true, recurses := true, apart := false }
def HeapFullSaid : Prop := heapFullRow.holds Tryz.pinned (OpenSpec.ofChange heapFullSpec)

/-- ITS FALSE NEIGHBOUR: 'it returns false'. Refute it at one input. -/
def heapFullWrong : ChangeSpec := { name := "heapFull", fn := fun _ => fun
  | [d1, d2] => { results := [.lit (.bool false)], args := [d1, d2] }
  | _ => none }
def HeapFullWrongFalsely : Prop := heapFullRow.holds Tryz.pinned (OpenSpec.ofChange heapFullWrong)

/-- 'middenheaplaw10.HeapStill': WHATEVER THE INPUT: true; the input reads as it did. -/
def heapStillSpec : ChangeSpec := { name := "heapStill", fn := fun _ => fun
  | [d] => { results := [.lit (.bool true)], args := [d] }
  | _ => none }
def heapStillRow : OpenClaim := { program := "ytbjmeibcphmgbaagreat", sum := "f5ea32e8a256b2bdb048db2a68fe8cdb1b4b473452edf0d9239df7c432005f93", func := "middenheap/middenheaplaw10.HeapStill", spec := "heapStill", unfollowed := true, recurses := true, apart := false }
def HeapStillSaid : Prop := heapStillRow.holds Tryz.pinned (OpenSpec.ofChange heapStillSpec)

/-- ITS FALSE NEIGHBOUR: 'it returns false'. Refute it at one input. -/
def heapStillWrong : ChangeSpec := { name := "heapStill", fn := fun _ => fun
  | [d] => { results := [.lit (.bool false)], args := [d] }
  | _ => none }
def HeapStillWrongFalsely : Prop := heapStillRow.holds Tryz.pinned (OpenSpec.ofChange heapStillWrong)

/-- 'middenheaplaw10.HeapNobody': WHATEVER THE INPUT: true; the input reads as it did. -/
def heapNobodySpec : ChangeSpec := { name := "heapNobody", fn := fun _ => fun
  | [d1, d2, d3] => { results := [.lit (.bool true)], args := [d1, d2, d3] }
  | _ => none }
def heapNobodyRow : OpenClaim := { program := "ytbjmeibcphmgbaagreat", sum := "f5ea32e8a256b2bdb048db2a68fe8cdb1b4b473452edf0d9239df7c432005f93", func := "middenheap/middenheaplaw10.HeapNobody", spec := "heapNobody", unfollowed := true, recurses := true, apart := false }
def HeapNobodySaid : Prop := heapNobodyRow.holds Tryz.pinned (OpenSpec.ofChange heapNobodySpec)

/-- ITS FALSE NEIGHBOUR: 'it returns false'. Refute it at one input. -/
def heapNobodyWrong : ChangeSpec := { name := "heapNobody", fn := fun _ => fun
  | [d1, d2, d3] => { results := [.lit (.bool false)], args := [d1, d2, d3] }
  | _ => none }
def HeapNobodyWrongFalsely : Prop := heapNobodyRow.holds Tryz.pinned (OpenSpec.ofChange heapNobodyWrong)

/-- 'middenheaplaw11.CycleTwins': WHATEVER THE INPUT: true; the input reads as it did. -/
def cycleTwinsSpec : ChangeSpec := { name := "cycleTwins", fn := fun _ => fun
  | [d] => { results := [.lit (.bool true)], args := [d] }
  | _ => none }
def cycleTwinsRow : OpenClaim := { program := "ytbjmeibcphmgbaagreat", sum := "f5ea32e8a256b2bdb048db2a68fe8cdb1b4b473452edf0d9239df7c432005f93", func := "middenheap/middenheaplaw11.CycleTwins", spec := "cycleTwins", unfollowed := true, recurses := true, apart := false }
def CycleTwinsSaid : Prop := cycleTwinsRow.holds Tryz.pinned (OpenSpec.ofChange cycleTwinsSpec)

/-- ITS FALSE NEIGHBOUR: 'it returns false'. Refute it at one input. -/
def cycleTwinsWrong : ChangeSpec := { name := "cycleTwins", fn := fun _ => fun
  | [d] => { results := [.lit (.bool false)], args := [d] }
  | _ => none }
def CycleTwinsWrongFalsely : Prop := cycleTwinsRow.holds Tryz.pinned (OpenSpec.ofChange cycleTwinsWrong)

/-- 'middenheaplaw11.CycleBound': WHATEVER THE INPUT: true; the input reads as it did. -/
def cycleBoundSpec : ChangeSpec := { name := "cycleBound", fn := fun _ => fun
  | [d] => { results := [.lit (.bool true)], args := [d] }
  | _ => none }
def cycleBoundRow : OpenClaim := { program := "ytbjmeibcphmgbaagreat", sum := "f5ea32e8a256b2bdb048db2a68fe8cdb1b4b473452edf0d9239df7c432005f93", func := "middenheap/middenheaplaw11.CycleBound", spec := "cycleBound", unfollowed := true, recurses := true, apart := false }
def CycleBoundSaid : Prop := cycleBoundRow.holds Tryz.pinned (OpenSpec.ofChange cycleBoundSpec)

/-- ITS FALSE NEIGHBOUR: 'it returns false'. Refute it at one input. -/
def cycleBoundWrong : ChangeSpec := { name := "cycleBound", fn := fun _ => fun
  | [d] => { results := [.lit (.bool false)], args := [d] }
  | _ => none }
def CycleBoundWrongFalsely : Prop := cycleBoundRow.holds Tryz.pinned (OpenSpec.ofChange cycleBoundWrong)

/-- 'middenheaplaw11.CycleEmpty': WHATEVER THE INPUT: true; the input reads as it did. -/
def cycleEmptySpec : ChangeSpec := { name := "cycleEmpty", fn := fun _ => fun
  | [d] => { results := [.lit (.bool true)], args := [d] }
  | _ => none }
def cycleEmptyRow : OpenClaim := { program := "ytbjmeibcphmgbaagreat", sum := "f5ea32e8a256b2bdb048db2a68fe8cdb1b4b473452edf0d9239df7c432005f93", func := "middenheap/middenheaplaw11.CycleEmpty", spec := "cycleEmpty", unfollowed := true, recurses := true, apart := false }
def CycleEmptySaid : Prop := cycleEmptyRow.holds Tryz.pinned (OpenSpec.ofChange cycleEmptySpec)

/-- ITS FALSE NEIGHBOUR: 'it returns false'. Refute it at one input. -/
def cycleEmptyWrong : ChangeSpec := { name := "cycleEmpty", fn := fun _ => fun
  | [d] => { results := [.lit (.bool false)], args := [d] }
  | _ => none }
def CycleEmptyWrongFalsely : Prop := cycleEmptyRow.holds Tryz.pinned (OpenSpec.ofChange cycleEmptyWrong)

/-- 'middenheaplaw11.CycleAgain': WHATEVER THE INPUT: true; the input reads as it did. -/
def cycleAgainSpec : ChangeSpec := { name := "cycleAgain", fn := fun _ => fun
  | [d] => { results := [.lit (.bool true)], args := [d] }
  | _ => none }
def cycleAgainRow : OpenClaim := { program := "ytbjmeibcphmgbaagreat", sum := "f5ea32e8a256b2bdb048db2a68fe8cdb1b4b473452edf0d9239df7c432005f93", func := "middenheap/middenheaplaw11.CycleAgain", spec := "cycleAgain", unfollowed := true, recurses := true, apart := false }
def CycleAgainSaid : Prop := cycleAgainRow.holds Tryz.pinned (OpenSpec.ofChange cycleAgainSpec)

/-- ITS FALSE NEIGHBOUR: 'it returns false'. Refute it at one input. -/
def cycleAgainWrong : ChangeSpec := { name := "cycleAgain", fn := fun _ => fun
  | [d] => { results := [.lit (.bool false)], args := [d] }
  | _ => none }
def CycleAgainWrongFalsely : Prop := cycleAgainRow.holds Tryz.pinned (OpenSpec.ofChange cycleAgainWrong)

/- THE SECOND FORM. 'bulk': how many values and letters a reading holds, each counted each time it is reached (what is shared counts as often as it is met; a slice's spare places count too). A statement '..UptoSaid' is the law's where the arguments, and the package variables that the reading takes, are together of bulk at most 1048576: NARROWER than '..Said'. Prove '..Said' where nothing that the law and all that it calls make is longer than what came in: it says more and counts as full. Else prove '..UptoSaid'. A law counts once. -/
mutual
def uptoBulk {H : Type} : DataW H → Nat
  | .lit (.string bytes) => bytes.length + 1
  | .lit _ => 1
  | .nil => 1
  | .ptr d => uptoBulk d + 1
  | .slice elems spare => uptoBulkAll elems + uptoBulkAll spare + 1
  | .agg parts => uptoBulkAll parts + 1
  | .iface _ d => uptoBulk d + 1
  | .map entries => uptoBulkEntries entries + 1
  | .held _ => 1
def uptoBulkAll {H : Type} : List (DataW H) → Nat
  | [] => 0
  | d :: r => uptoBulk d + uptoBulkAll r
def uptoBulkEntries {H : Type} : List (Lit × DataW H) → Nat
  | [] => 0
  | x :: r => uptoBulkEntry x + uptoBulkEntries r
def uptoBulkEntry {H : Type} : Lit × DataW H → Nat
  | (.string bytes, d) => bytes.length + uptoBulk d + 1
  | (_, d) => uptoBulk d + 1
 end
def uptoSmall : (H : Type) → List (DataW H) → Bool := fun _ ds => decide (uptoBulkAll ds ≤ 1048576)
def OpenSpec.upto (s : _root_.Go.ChangeSpec) : _root_.Go.OpenSpec := { _root_.Go.OpenSpec.ofChange s with cond := some uptoSmall }

/-- 'middenheaplaw10.HeapTwins', WHERE WHAT IT READS IS OF BULK AT MOST 1048576: true; the input reads as it did. -/
def heapTwinsUptoRow : OpenClaim := { program := "ytbjmeibcphmgbaagreat", sum := "f5ea32e8a256b2bdb048db2a68fe8cdb1b4b473452edf0d9239df7c432005f93", func := "middenheap/middenheaplaw10.HeapTwins", spec := "heapTwins", unfollowed := true, recurses := true, apart := false, narrowed := true }
def HeapTwinsUptoSaid : Prop := heapTwinsUptoRow.holds Tryz.pinned (OpenSpec.upto heapTwinsSpec)

/-- 'middenheaplaw10.HeapCollects', WHERE WHAT IT READS IS OF BULK AT MOST 1048576: true; the input reads as it did. -/
def heapCollectsUptoRow : OpenClaim := { program := "ytbjmeibcphmgbaagreat", sum := "f5ea32e8a256b2bdb048db2a68fe8cdb1b4b473452edf0d9239df7c432005f93", func := "middenheap/middenheaplaw10.HeapCollects", spec := "heapCollects", unfollowed := true, recurses := true, apart := false, narrowed := true }
def HeapCollectsUptoSaid : Prop := heapCollectsUptoRow.holds Tryz.pinned (OpenSpec.upto heapCollectsSpec)

/-- 'middenheaplaw10.HeapFull', WHERE WHAT IT READS IS OF BULK AT MOST 1048576: true; the input reads as it did. -/
def heapFullUptoRow : OpenClaim := { program := "ytbjmeibcphmgbaagreat", sum := "f5ea32e8a256b2bdb048db2a68fe8cdb1b4b473452edf0d9239df7c432005f93", func := "middenheap/middenheaplaw10.HeapFull", spec := "heapFull", unfollowed := true, recurses := true, apart := false, narrowed := true }
def HeapFullUptoSaid : Prop := heapFullUptoRow.holds Tryz.pinned (OpenSpec.upto heapFullSpec)

/-- 'middenheaplaw10.HeapStill', WHERE WHAT IT READS IS OF BULK AT MOST 1048576: true; the input reads as it did. -/
def heapStillUptoRow : OpenClaim := { program := "ytbjmeibcphmgbaagreat", sum := "f5ea32e8a256b2bdb048db2a68fe8cdb1b4b473452edf0d9239df7c432005f93", func := "middenheap/middenheaplaw10.HeapStill", spec := "heapStill", unfollowed := true, recurses := true, apart := false, narrowed := true }
def HeapStillUptoSaid : Prop := heapStillUptoRow.holds Tryz.pinned (OpenSpec.upto heapStillSpec)

/-- 'middenheaplaw10.HeapNobody', WHERE WHAT IT READS IS OF BULK AT MOST 1048576: true; the input reads as it did. -/
def heapNobodyUptoRow : OpenClaim := { program := "ytbjmeibcphmgbaagreat", sum := "f5ea32e8a256b2bdb048db2a68fe8cdb1b4b473452edf0d9239df7c432005f93", func := "middenheap/middenheaplaw10.HeapNobody", spec := "heapNobody", unfollowed := true, recurses := true, apart := false, narrowed := true }
def HeapNobodyUptoSaid : Prop := heapNobodyUptoRow.holds Tryz.pinned (OpenSpec.upto heapNobodySpec)

/-- 'middenheaplaw11.CycleTwins', WHERE WHAT IT READS IS OF BULK AT MOST 1048576: true; the input reads as it did. -/
def cycleTwinsUptoRow : OpenClaim := { program := "ytbjmeibcphmgbaagreat", sum := "f5ea32e8a256b2bdb048db2a68fe8cdb1b4b473452edf0d9239df7c432005f93", func := "middenheap/middenheaplaw11.CycleTwins", spec := "cycleTwins", unfollowed := true, recurses := true, apart := false, narrowed := true }
def CycleTwinsUptoSaid : Prop := cycleTwinsUptoRow.holds Tryz.pinned (OpenSpec.upto cycleTwinsSpec)

/-- 'middenheaplaw11.CycleBound', WHERE WHAT IT READS IS OF BULK AT MOST 1048576: true; the input reads as it did. -/
def cycleBoundUptoRow : OpenClaim := { program := "ytbjmeibcphmgbaagreat", sum := "f5ea32e8a256b2bdb048db2a68fe8cdb1b4b473452edf0d9239df7c432005f93", func := "middenheap/middenheaplaw11.CycleBound", spec := "cycleBound", unfollowed := true, recurses := true, apart := false, narrowed := true }
def CycleBoundUptoSaid : Prop := cycleBoundUptoRow.holds Tryz.pinned (OpenSpec.upto cycleBoundSpec)

/-- 'middenheaplaw11.CycleEmpty', WHERE WHAT IT READS IS OF BULK AT MOST 1048576: true; the input reads as it did. -/
def cycleEmptyUptoRow : OpenClaim := { program := "ytbjmeibcphmgbaagreat", sum := "f5ea32e8a256b2bdb048db2a68fe8cdb1b4b473452edf0d9239df7c432005f93", func := "middenheap/middenheaplaw11.CycleEmpty", spec := "cycleEmpty", unfollowed := true, recurses := true, apart := false, narrowed := true }
def CycleEmptyUptoSaid : Prop := cycleEmptyUptoRow.holds Tryz.pinned (OpenSpec.upto cycleEmptySpec)

/-- 'middenheaplaw11.CycleAgain', WHERE WHAT IT READS IS OF BULK AT MOST 1048576: true; the input reads as it did. -/
def cycleAgainUptoRow : OpenClaim := { program := "ytbjmeibcphmgbaagreat", sum := "f5ea32e8a256b2bdb048db2a68fe8cdb1b4b473452edf0d9239df7c432005f93", func := "middenheap/middenheaplaw11.CycleAgain", spec := "cycleAgain", unfollowed := true, recurses := true, apart := false, narrowed := true }
def CycleAgainUptoSaid : Prop := cycleAgainUptoRow.holds Tryz.pinned (OpenSpec.upto cycleAgainSpec)

end Rows
end Go.Proofs.YtbjmeibcphmgbaaGreat
