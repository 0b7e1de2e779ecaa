/-
  The program's own Elem.
-/
import Derived.Test.YtbcadeikdmlpoaaDoorR6
namespace Go.Proofs.YtbcadeikdmlpoaaDoor
open Go.RowKit
open Utf1 Pol8
theorem pelemC_any : ElemC := by
  intro v1 v2 v3 v4 v5 p l1 l2 l3 l4 l5 x w hv hf hx
  have := pelem_any p.ep v1 v2 v3 v4 v5 p.dp p.nd p.bt x l1 (fits_of hf (by simp) hv.e1).1 w hv.s1
  rw [hv.e1] at this
  exact this
end Go.Proofs.YtbcadeikdmlpoaaDoor
