/-
  The law over the program's own functions.
-/
import Derived.Test.YtbcadeikdmlpoaaGreatDoorSL2
import Derived.Test.YtbcadeikdmlpoaaGreatDoorSLX
import Derived.Test.YtbcadeikdmlpoaaGreatDoorOX
namespace Go.Proofs.YtbcadeikdmlpoaaGreatDoor
open Go.RowKit
open Utf1 Pol8

theorem tells_go {v1 v2 v3 v4 v5 : Value} {p : Pol} {l1 l2 l3 l4 l5 : List ByteArray} {v : Value} {ns : List Nd} (w : World) (hv : PolV w v1 v2 v3 v4 v5 p l1 l2 l3 l4 l5) (hk : Dm.NArg w v ns) :
    Calls Tryz.prog 3 #[pval p v1 v2 v3 v4 v5, v] w fun e w' => e = .returned (.bool true) ∧ Below w.heap.size w w' :=
  lawTells_walk safeC_any v1 v2 v3 v4 v5 p l1 l2 l3 l4 l5 v ns w hv hk.1
end Go.Proofs.YtbcadeikdmlpoaaGreatDoor
