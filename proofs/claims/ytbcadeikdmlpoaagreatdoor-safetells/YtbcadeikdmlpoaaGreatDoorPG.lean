/-
  No variable of the library is read here.
-/
import Derived.Test.YtbcadeikdmlpoaaGreatDoorPH
namespace Go.Proofs.YtbcadeikdmlpoaaGreatDoor
open Go.RowKit
open Utf1
/-- No variable is asked. -/
def Glob (_ : World) : Prop := True
theorem Glob.below {w w' : World} (_ : Glob w) (_ : Below w.heap.size w w') : Glob w' := trivial
end Go.Proofs.YtbcadeikdmlpoaaGreatDoor
