/-
  The program's own Attr, and the closures of Stricter.
-/
import Derived.Test.YtebcpmgooodmpaaGreatDoorR3
import Derived.Test.YtebcpmgooodmpaaGreatDoorR4
import Derived.Test.YtebcpmgooodmpaaGreatDoorPC
namespace Go.Proofs.YtebcpmgooodmpaaGreatDoor
open Go.RowKit
open Utf1 Pol8

def inL (l : List L) (x : L) : Bool := decide (x ∈ l)
end Go.Proofs.YtebcpmgooodmpaaGreatDoor
