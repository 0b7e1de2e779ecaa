/-
  The law over the program's own functions.
-/
import Derived.Test.YtbcadeikdmlpoaaDoorSL7
import Derived.Test.YtbcadeikdmlpoaaDoorSLX
namespace Go.Proofs.YtbcadeikdmlpoaaDoor
open Go.RowKit
open Utf1 Pol8

theorem links_go (h r : ByteArray) (bh : Bool) (w : World) :
    Calls Tryd.prog 6 #[.string h, .string r, .bool bh] w fun e w' => e = .returned (.bool true) ∧ Below w.heap.size w w' :=
  lawLinks_walk safeC_any Ul.allowed_any h r bh w
end Go.Proofs.YtbcadeikdmlpoaaDoor
