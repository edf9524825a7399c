/- The row's condition on the table of package math/bits: what it gives (TabW), and that the door's own run meets it. Plain; no condition. -/
import Derived.Test.YtcggjfljpoeanaaDoorBitmap
import Derived.Test.YtcggjfljpoeanaaDoorOpen
import Derived.Test.YtcggjfljpoeanaaDoorTie
import Derived.Test.YtcggjfljpoeanaaDoorCards
import Derived.SevenTiedAt
import Derived.LaidMore
import Derived.HandedShaped
import Derived.LaidHandle
import Derived.Lib.LaidTab
import Derived.Stop.Joined
namespace Go.Proofs.YtcggjfljpoeanaaDoor
open Go.ChangeShapes Go.WideShapes Go.ChangeAt Go.RowKit

theorem gTab : Tryd.prog.globalNamed "math/bits.deBruijn64tab" = some 0 := by kernel_rfl
theorem tTab : (Tryd.prog.globals[0]?).map (·.type) = some 46 := by kernel_rfl

theorem door_met (os : Os) (args : Array Value) : laidMetH Tryd.prog [("math/bits.deBruijn64tab", Rows.laid_math_bits_deBruijn64tab)] ((World.doorLaid Tryd.prog 400 os).forCall (fun _ _ => 0) ⟨#[], args, []⟩).memory :=
  laidMetH_of_parts3 (fuel := 8) (laidMet_of_run' 8 (by kernel_rfl) (by kernel_rfl)) (by kernel_rfl) (by kernel_rfl)

theorem tab_of_laid {W : World} (h : laidMetH Tryd.prog [("math/bits.deBruijn64tab", Rows.laid_math_bits_deBruijn64tab)] W) : TabW W := by
  rw [MakeChecks.laidMetH_plain _ _ _ (by kernel_rfl)] at h
  have hT : Lib.TabIs Tryd.prog W "math/bits.deBruijn64tab" .u8 (Lib.deBruijn64tab.map fun (n : Nat) => (n : Int)) :=
    Lib.tabIs_of_head gTab tTab Tryd.underlying46 Tryd.underlying5 (by kernel_rfl) (by kernel_rfl) h
  intro j hj
  have hl : Lib.deBruijn64tab.length = 64 := by decide
  rw [hT.cell gTab j (by rw [List.length_map, hl]; exact hj)]
  simp [List.getD, hl, hj]

end Go.Proofs.YtcggjfljpoeanaaDoor
