/-
  No cell of these rows narrows 'for every input' (looked for: loops, veiled, ifaces, maps, wideKeys, modest, calm, conditions, laid).
  DERIVED. THE GIVEN ROWS OF THIS SEAT. 4 by the template 'for every input the law returns true; each argument reads behind the call as it read before'; 0 by the template 'total and deterministic' (their statements: YtdaopelbijkdiaaTotals.lean).
  GIVEN WITH THE SEED: the statements are not yours to turn. If you find one false, say at which input.
  Laid BY PROGRAM, IN A SANDBOX (cutbox-rows.mjs): the forced cells as the released guide's own fill.sh prints them over the translation f9e3a1cebb120bb8… (all of the seat's roots in one cut). By AI agents, Wed Nov 11 2026. No macro, syntax, notation, axiom, sorry.
-/
import Derived.Test.YtdaopelbijkdiaaChecked
import GoSem.Claim
import GoSem.ClaimJoined
import GoSem.ClaimMapViews
import Derived.JoinedTies
import Derived.KernelRfl
namespace Go.Proofs.Ytdaopelbijkdiaa
/- THE CELL 'sum', in the pinned program and in every row, IS THE sha256 OF THE DUMP (.gsa) THAT YtdaopelbijkdiaaProg.lean LOADS. Nothing in Lean hashes anything: it is a label: what it is worth is what the hold of that sum in a sandbox is worth. -/
noncomputable def Try.pinned : Pinned := { name := "ytdaopelbijkdiaa", sum := "f9e3a1cebb120bb8429abf41ac0fce8731dc5e4f4925638d18f75e36bc86023c", checked := Try.checked }
namespace Rows
def none {H : Type} : Left H := { results := [], args := [] }

/-- 'middenheaplaw05.SpaceTakes': WHATEVER THE INPUT: true; the input reads as it did. -/
def spaceTakesSpec : ChangeSpec := { name := "spaceTakes", fn := fun _ => fun
  | [d1, d2] => { results := [.lit (.bool true)], args := [d1, d2] }
  | _ => none }
def spaceTakesRow : OpenClaim := { program := "ytdaopelbijkdiaa", sum := "f9e3a1cebb120bb8429abf41ac0fce8731dc5e4f4925638d18f75e36bc86023c", func := "middenheap/middenheaplaw05.SpaceTakes", spec := "spaceTakes", unfollowed := true, recurses := true, apart := false }
def SpaceTakesSaid : Prop := spaceTakesRow.holds Try.pinned (OpenSpec.ofChange spaceTakesSpec)

/-- ITS FALSE NEIGHBOUR: 'it returns false'. Refute it at one input. -/
def spaceTakesWrong : ChangeSpec := { name := "spaceTakes", fn := fun _ => fun
  | [d1, d2] => { results := [.lit (.bool false)], args := [d1, d2] }
  | _ => none }
def SpaceTakesWrongFalsely : Prop := spaceTakesRow.holds Try.pinned (OpenSpec.ofChange spaceTakesWrong)

/-- 'middenheaplaw05.SpaceWhole': WHATEVER THE INPUT: true; the input reads as it did. -/
def spaceWholeSpec : ChangeSpec := { name := "spaceWhole", fn := fun _ => fun
  | [d] => { results := [.lit (.bool true)], args := [d] }
  | _ => none }
def spaceWholeRow : OpenClaim := { program := "ytdaopelbijkdiaa", sum := "f9e3a1cebb120bb8429abf41ac0fce8731dc5e4f4925638d18f75e36bc86023c", func := "middenheap/middenheaplaw05.SpaceWhole", spec := "spaceWhole", unfollowed := true, recurses := true, apart := false }
def SpaceWholeSaid : Prop := spaceWholeRow.holds Try.pinned (OpenSpec.ofChange spaceWholeSpec)

/-- ITS FALSE NEIGHBOUR: 'it returns false'. Refute it at one input. -/
def spaceWholeWrong : ChangeSpec := { name := "spaceWhole", fn := fun _ => fun
  | [d] => { results := [.lit (.bool false)], args := [d] }
  | _ => none }
def SpaceWholeWrongFalsely : Prop := spaceWholeRow.holds Try.pinned (OpenSpec.ofChange spaceWholeWrong)

/-- 'middenheaplaw05.SpaceShifts': WHATEVER THE INPUT: true; the input reads as it did. -/
def spaceShiftsSpec : ChangeSpec := { name := "spaceShifts", fn := fun _ => fun
  | [d1, d2, d3] => { results := [.lit (.bool true)], args := [d1, d2, d3] }
  | _ => none }
def spaceShiftsRow : OpenClaim := { program := "ytdaopelbijkdiaa", sum := "f9e3a1cebb120bb8429abf41ac0fce8731dc5e4f4925638d18f75e36bc86023c", func := "middenheap/middenheaplaw05.SpaceShifts", spec := "spaceShifts", unfollowed := true, recurses := true, apart := false }
def SpaceShiftsSaid : Prop := spaceShiftsRow.holds Try.pinned (OpenSpec.ofChange spaceShiftsSpec)

/-- ITS FALSE NEIGHBOUR: 'it returns false'. Refute it at one input. -/
def spaceShiftsWrong : ChangeSpec := { name := "spaceShifts", fn := fun _ => fun
  | [d1, d2, d3] => { results := [.lit (.bool false)], args := [d1, d2, d3] }
  | _ => none }
def SpaceShiftsWrongFalsely : Prop := spaceShiftsRow.holds Try.pinned (OpenSpec.ofChange spaceShiftsWrong)

/-- 'middenheaplaw05.SpaceHas': WHATEVER THE INPUT: true; the input reads as it did. -/
def spaceHasSpec : ChangeSpec := { name := "spaceHas", fn := fun _ => fun
  | [d1, d2] => { results := [.lit (.bool true)], args := [d1, d2] }
  | _ => none }
def spaceHasRow : OpenClaim := { program := "ytdaopelbijkdiaa", sum := "f9e3a1cebb120bb8429abf41ac0fce8731dc5e4f4925638d18f75e36bc86023c", func := "middenheap/middenheaplaw05.SpaceHas", spec := "spaceHas", unfollowed := true, recurses := true, apart := false }
def SpaceHasSaid : Prop := spaceHasRow.holds Try.pinned (OpenSpec.ofChange spaceHasSpec)

/-- ITS FALSE NEIGHBOUR: 'it returns false'. Refute it at one input. -/
def spaceHasWrong : ChangeSpec := { name := "spaceHas", fn := fun _ => fun
  | [d1, d2] => { results := [.lit (.bool false)], args := [d1, d2] }
  | _ => none }
def SpaceHasWrongFalsely : Prop := spaceHasRow.holds Try.pinned (OpenSpec.ofChange spaceHasWrong)

/- THE SECOND FORM. 'bulk': how many values and letters a reading holds, each counted each time it is reached (what is shared counts as often as it is met; a slice's spare places count too). A statement '..UptoSaid' is the law's where the arguments, and the package variables that the reading takes, are together of bulk at most 1048576: NARROWER than '..Said'. Prove '..Said' where nothing that the law and all that it calls make is longer than what came in: it says more and counts as full. Else prove '..UptoSaid'. A law counts once. -/
mutual
def uptoBulk {H : Type} : DataW H → Nat
  | .lit (.string bytes) => bytes.length + 1
  | .lit _ => 1
  | .nil => 1
  | .ptr d => uptoBulk d + 1
  | .slice elems spare => uptoBulkAll elems + uptoBulkAll spare + 1
  | .agg parts => uptoBulkAll parts + 1
  | .iface _ d => uptoBulk d + 1
  | .map entries => uptoBulkEntries entries + 1
  | .held _ => 1
def uptoBulkAll {H : Type} : List (DataW H) → Nat
  | [] => 0
  | d :: r => uptoBulk d + uptoBulkAll r
def uptoBulkEntries {H : Type} : List (Lit × DataW H) → Nat
  | [] => 0
  | x :: r => uptoBulkEntry x + uptoBulkEntries r
def uptoBulkEntry {H : Type} : Lit × DataW H → Nat
  | (.string bytes, d) => bytes.length + uptoBulk d + 1
  | (_, d) => uptoBulk d + 1
 end
def uptoSmall : (H : Type) → List (DataW H) → Bool := fun _ ds => decide (uptoBulkAll ds ≤ 1048576)
def OpenSpec.upto (s : _root_.Go.ChangeSpec) : _root_.Go.OpenSpec := { _root_.Go.OpenSpec.ofChange s with cond := some uptoSmall }

/-- 'middenheaplaw05.SpaceTakes', WHERE WHAT IT READS IS OF BULK AT MOST 1048576: true; the input reads as it did. -/
def spaceTakesUptoRow : OpenClaim := { program := "ytdaopelbijkdiaa", sum := "f9e3a1cebb120bb8429abf41ac0fce8731dc5e4f4925638d18f75e36bc86023c", func := "middenheap/middenheaplaw05.SpaceTakes", spec := "spaceTakes", unfollowed := true, recurses := true, apart := false, narrowed := true }
def SpaceTakesUptoSaid : Prop := spaceTakesUptoRow.holds Try.pinned (OpenSpec.upto spaceTakesSpec)

/-- 'middenheaplaw05.SpaceWhole', WHERE WHAT IT READS IS OF BULK AT MOST 1048576: true; the input reads as it did. -/
def spaceWholeUptoRow : OpenClaim := { program := "ytdaopelbijkdiaa", sum := "f9e3a1cebb120bb8429abf41ac0fce8731dc5e4f4925638d18f75e36bc86023c", func := "middenheap/middenheaplaw05.SpaceWhole", spec := "spaceWhole", unfollowed := true, recurses := true, apart := false, narrowed := true }
def SpaceWholeUptoSaid : Prop := spaceWholeUptoRow.holds Try.pinned (OpenSpec.upto spaceWholeSpec)

/-- 'middenheaplaw05.SpaceShifts', WHERE WHAT IT READS IS OF BULK AT MOST 1048576: true; the input reads as it did. -/
def spaceShiftsUptoRow : OpenClaim := { program := "ytdaopelbijkdiaa", sum := "f9e3a1cebb120bb8429abf41ac0fce8731dc5e4f4925638d18f75e36bc86023c", func := "middenheap/middenheaplaw05.SpaceShifts", spec := "spaceShifts", unfollowed := true, recurses := true, apart := false, narrowed := true }
def SpaceShiftsUptoSaid : Prop := spaceShiftsUptoRow.holds Try.pinned (OpenSpec.upto spaceShiftsSpec)

/-- 'middenheaplaw05.SpaceHas', WHERE WHAT IT READS IS OF BULK AT MOST 1048576: true; the input reads as it did. -/
def spaceHasUptoRow : OpenClaim := { program := "ytdaopelbijkdiaa", sum := "f9e3a1cebb120bb8429abf41ac0fce8731dc5e4f4925638d18f75e36bc86023c", func := "middenheap/middenheaplaw05.SpaceHas", spec := "spaceHas", unfollowed := true, recurses := true, apart := false, narrowed := true }
def SpaceHasUptoSaid : Prop := spaceHasUptoRow.holds Try.pinned (OpenSpec.upto spaceHasSpec)

end Rows
end Go.Proofs.Ytdaopelbijkdiaa
