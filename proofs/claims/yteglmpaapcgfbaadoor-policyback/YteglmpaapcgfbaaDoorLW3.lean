/-
  The law PolicyBack, over the program's own functions.
-/
import Derived.Test.YteglmpaapcgfbaaDoorPL3
import Derived.Test.YteglmpaapcgfbaaDoorR6
import Derived.Test.YteglmpaapcgfbaaDoorR15
namespace Go.Proofs.YteglmpaapcgfbaaDoor
open Go.RowKit
open Utf1 Pol8
theorem back_go {v1 v2 v3 v4 v5 : Value} {p : Pol} {l1 l2 l3 l4 l5 : List ByteArray} (s : ByteArray) (w : World) (hv : PolV w v1 v2 v3 v4 v5 p l1 l2 l3 l4 l5) (hge : GlobE w) :
    Calls Tryd.prog 6 #[pval p v1 v2 v3 v4 v5, .string s] w fun e w' => e = .returned (.bool true) ∧ Below w.heap.size w w' :=
  lawBack_walk ptext_any pright_any pattrB_any pread_any v1 v2 v3 v4 v5 p l1 l2 l3 l4 l5 s w hv hge
end Go.Proofs.YteglmpaapcgfbaaDoor
