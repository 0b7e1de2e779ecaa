/-
  The law over the program's own functions.
-/
import Derived.Test.YtbcadeikdmlpoaaDoorSL3
import Derived.Test.YtbcadeikdmlpoaaDoorSLX
namespace Go.Proofs.YtbcadeikdmlpoaaDoor
open Go.RowKit
open Utf1 Pol8

theorem values_go {v1 v2 v3 v4 v5 : Value} {p : Pol} {l1 l2 l3 l4 l5 : List ByteArray} (e n x : ByteArray) (w : World) (hv : PolV w v1 v2 v3 v4 v5 p l1 l2 l3 l4 l5) :
    Calls Tryd.prog 3 #[pval p v1 v2 v3 v4 v5, .string e, .agg #[.string n, .string x]] w fun r w' => r = .returned (.bool true) ∧ Below w.heap.size w w' :=
  lawValues_walk safeC_any valueC_any placeC_any v1 v2 v3 v4 v5 p l1 l2 l3 l4 l5 e n x w hv
end Go.Proofs.YtbcadeikdmlpoaaDoor
