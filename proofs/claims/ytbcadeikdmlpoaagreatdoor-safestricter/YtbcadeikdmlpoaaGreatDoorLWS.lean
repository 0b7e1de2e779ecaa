/-
  The law over the program's own functions.
-/
import Derived.Test.YtbcadeikdmlpoaaGreatDoorSL4
import Derived.Test.YtbcadeikdmlpoaaGreatDoorSLX
import Derived.Test.YtbcadeikdmlpoaaGreatDoorR5
import Derived.Test.YtbcadeikdmlpoaaGreatDoorOX
import Derived.Test.YtbcadeikdmlpoaaGreatDoorR8
namespace Go.Proofs.YtbcadeikdmlpoaaGreatDoor
open Go.RowKit
open Utf1 Pol8

theorem stricter_go {v1 v2 v3 v4 v5 u1 u2 u3 u4 u5 : Value} {p q : Pol} {l1 l2 l3 l4 l5 m1 m2 m3 m4 m5 : List ByteArray} {v : Value} {ns : List Nd} (w : World) (hv : PolV w v1 v2 v3 v4 v5 p l1 l2 l3 l4 l5) (hu : PolV w u1 u2 u3 u4 u5 q m1 m2 m3 m4 m5) (hk : Dm.NArg w v ns) :
    Calls Tryz.prog 4 #[pval p v1 v2 v3 v4 v5, pval q u1 u2 u3 u4 u5, v] w fun e w' => e = .returned (.bool true) ∧ Below w.heap.size w w' :=
  lawSStricter_walk safeC_any pright_any pstrict_any v1 v2 v3 v4 v5 u1 u2 u3 u4 u5 p q l1 l2 l3 l4 l5 m1 m2 m3 m4 m5 v ns w hv hu hk.1
end Go.Proofs.YtbcadeikdmlpoaaGreatDoor
