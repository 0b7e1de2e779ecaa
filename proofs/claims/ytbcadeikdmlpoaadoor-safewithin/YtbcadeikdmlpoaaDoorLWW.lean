/-
  The law over the program's own functions.
-/
import Derived.Test.YtbcadeikdmlpoaaDoorSL6
import Derived.Test.YtbcadeikdmlpoaaDoorSLX
import Derived.Test.YtbcadeikdmlpoaaDoorOX
namespace Go.Proofs.YtbcadeikdmlpoaaDoor
open Go.RowKit
open Utf1 Pol8

theorem within_go {v1 v2 v3 v4 v5 : Value} {p : Pol} {l1 l2 l3 l4 l5 : List ByteArray} {pv : Option Addr} {nv cv : Nat} {ns : List Nd} (nn : Int) (w : World) (hv : PolV w v1 v2 v3 v4 v5 p l1 l2 l3 l4 l5) (hk : Dm.NArg w (.slice pv nv cv) ns) (hc : nv ≤ cv) :
    Calls Tryd.prog 4 #[pval p v1 v2 v3 v4 v5, .slice pv nv cv, .int .i64 nn] w fun e w' => e = .returned (.bool true) ∧ Below w.heap.size w w' :=
  lawSaWithin_walk safeC_any v1 v2 v3 v4 v5 p l1 l2 l3 l4 l5 pv nv cv ns nn w hv hk.1 hc
end Go.Proofs.YtbcadeikdmlpoaaDoor
