/-
  The law over the program's own functions.
-/
import Derived.Test.YtbcadeikdmlpoaaDoorSL5
import Derived.Test.YtbcadeikdmlpoaaDoorSLX
import Derived.Test.YtbcadeikdmlpoaaDoorR5
namespace Go.Proofs.YtbcadeikdmlpoaaDoor
open Go.RowKit
open Utf1 Pol8

theorem text_go {v1 v2 v3 v4 v5 : Value} {p : Pol} {l1 l2 l3 l4 l5 : List ByteArray} (s : ByteArray) (w : World) (hv : PolV w v1 v2 v3 v4 v5 p l1 l2 l3 l4 l5) :
    Calls Tryd.prog 5 #[pval p v1 v2 v3 v4 v5, .string s] w fun e w' => e = .returned (.bool true) ∧ Below w.heap.size w w' :=
  lawSaText_walk safeC_any pright_any v1 v2 v3 v4 v5 p l1 l2 l3 l4 l5 s w hv
end Go.Proofs.YtbcadeikdmlpoaaDoor
