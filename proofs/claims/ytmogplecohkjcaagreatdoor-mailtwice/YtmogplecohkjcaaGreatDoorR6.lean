/-
  The program's own Attr, and the closures of Stricter.
-/
import Derived.Test.YtmogplecohkjcaaGreatDoorRZ
import Derived.Test.YtmogplecohkjcaaGreatDoorR4
import Derived.Test.YtmogplecohkjcaaGreatDoorPC
namespace Go.Proofs.YtmogplecohkjcaaGreatDoor
open Go.RowKit
open Utf1 Pol8

def inL (l : List L) (x : L) : Bool := decide (x ∈ l)
end Go.Proofs.YtmogplecohkjcaaGreatDoor
