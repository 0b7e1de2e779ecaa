/-
  The law PolicyTexts, over the program's own functions.
-/
import Derived.Test.YteglmpaapcgfbaaDoorPL1
import Derived.Test.YteglmpaapcgfbaaDoorR6
import Derived.Test.YteglmpaapcgfbaaDoorR10
namespace Go.Proofs.YteglmpaapcgfbaaDoor
open Go.RowKit
open Utf1 Pol8
theorem texts_go {v1 v2 v3 v4 v5 : Value} {p : Pol} {l1 l2 l3 l4 l5 : List ByteArray} (w : World) (hv : PolV w v1 v2 v3 v4 v5 p l1 l2 l3 l4 l5) :
    Calls Tryd.prog 3 #[pval p v1 v2 v3 v4 v5] w fun e w' => e = .returned (.bool true) ∧ Below w.heap.size w w' :=
  lawTexts_walk ptext_any pright_any pattrB_any v1 v2 v3 v4 v5 p l1 l2 l3 l4 l5 w hv
end Go.Proofs.YteglmpaapcgfbaaDoor
