/-
  The variables of the library that the program's road reads: what they hold stays.
-/
import Derived.Test.YtmogplecohkjcaaGreatDoorPH
import Derived.Lib.LaidTab
import Derived.Lib.SmallJoins
import Derived.Lib.ItoaNum
import Derived.Shelf.Strconv.Itoa3
namespace Go.Proofs.YtmogplecohkjcaaGreatDoor
open Go.RowKit
open Utf1

theorem gTab : Tryz.prog.globalNamed "internal/strconv.uint64pow10" = some 3 := by kernel_rfl
/-- The table of powers holds what it should. -/
def Glob (w : World) : Prop := Lib.TabIs Tryz.prog w "internal/strconv.uint64pow10" .u64 Lib.pow10Tab
theorem Glob.below {w w' : World} (h : Glob w) (hb : Below w.heap.size w w') : Glob w' := Go.Joins.tab_stays gTab h hb (Nat.le_refl _)
end Go.Proofs.YtmogplecohkjcaaGreatDoor
