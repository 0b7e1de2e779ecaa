/-
  The law PolicyOrder, over the program's own functions.
-/
import Derived.Test.YteglmpaapcgfbaaDoorPL5
import Derived.Test.YteglmpaapcgfbaaDoorLW2
namespace Go.Proofs.YteglmpaapcgfbaaDoor
open Go.RowKit
open Utf1 Pol8
theorem order_go {v1 v2 v3 v4 v5 u1 u2 u3 u4 u5 t1 t2 t3 t4 t5 : Value} {p q r : Pol} {l1 l2 l3 l4 l5 m1 m2 m3 m4 m5 n1 n2 n3 n4 n5 : List ByteArray} (w : World) (hv : PolV w v1 v2 v3 v4 v5 p l1 l2 l3 l4 l5) (hu : PolV w u1 u2 u3 u4 u5 q m1 m2 m3 m4 m5) (ht : PolV w t1 t2 t3 t4 t5 r n1 n2 n3 n4 n5) :
    Calls Tryd.prog 7 #[pval p v1 v2 v3 v4 v5, pval q u1 u2 u3 u4 u5, pval r t1 t2 t3 t4 t5] w fun e w' => e = .returned (.bool true) ∧ Below w.heap.size w w' :=
  lawOrder_walk ptext_any pright_any pattrB_any pelemC_any pstrict_any v1 v2 v3 v4 v5 u1 u2 u3 u4 u5 t1 t2 t3 t4 t5 p q r l1 l2 l3 l4 l5 m1 m2 m3 m4 m5 n1 n2 n3 n4 n5 w hv hu ht
end Go.Proofs.YteglmpaapcgfbaaDoor
