/-
  The program's own Attr, and the closures of Stricter.
-/
import Derived.Test.YtebcpmgooodmpabGreatDoorR3
import Derived.Test.YtebcpmgooodmpabGreatDoorR4
import Derived.Test.YtebcpmgooodmpabGreatDoorPC
namespace Go.Proofs.YtebcpmgooodmpabGreatDoor
open Go.RowKit
open Utf1 Pol8

def inL (l : List L) (x : L) : Bool := decide (x ∈ l)
end Go.Proofs.YtebcpmgooodmpabGreatDoor
