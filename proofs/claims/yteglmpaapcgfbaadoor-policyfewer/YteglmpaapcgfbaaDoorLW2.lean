/-
  The law PolicyLets, over the program's own functions.
-/
import Derived.Test.YteglmpaapcgfbaaDoorPL2
import Derived.Test.YteglmpaapcgfbaaDoorR8
import Derived.Test.YteglmpaapcgfbaaDoorR10
namespace Go.Proofs.YteglmpaapcgfbaaDoor
open Go.RowKit
open Utf1 Pol8
theorem pelemC_any : ElemC := by
  intro v1 v2 v3 v4 v5 p l1 l2 l3 l4 l5 x w hv hf hx
  have := pelem_any p.ep v1 v2 v3 v4 v5 p.dp p.nd p.bt x l1 (fits_of hf (by simp) hv.e1).1 w hv.s1
  rw [hv.e1] at this
  exact this
theorem lets_go {v1 v2 v3 v4 v5 u1 u2 u3 u4 u5 : Value} {p q : Pol} {l1 l2 l3 l4 l5 m1 m2 m3 m4 m5 : List ByteArray} (x0 x1 : ByteArray) (w : World) (hv : PolV w v1 v2 v3 v4 v5 p l1 l2 l3 l4 l5) (hu : PolV w u1 u2 u3 u4 u5 q m1 m2 m3 m4 m5) :
    Calls Tryd.prog 5 #[pval p v1 v2 v3 v4 v5, pval q u1 u2 u3 u4 u5, .agg #[.string x0, .string x1]] w fun e w' => e = .returned (.bool true) ∧ Below w.heap.size w w' :=
  lawLets_walk ptext_any pright_any pattrB_any pelemC_any pstrict_any v1 v2 v3 v4 v5 u1 u2 u3 u4 u5 p q l1 l2 l3 l4 l5 m1 m2 m3 m4 m5 x0 x1 w hv hu
end Go.Proofs.YteglmpaapcgfbaaDoor
