/-
  The law ChainAdds, over the program's own functions.
-/
import Derived.Test.YtlabdbkmlkmnkaaLW
import Derived.Test.YtlabdbkmlkmnkaaLA
namespace Go.Proofs.Ytlabdbkmlkmnkaa
open Go.RowKit
open Utf1 Pol8
theorem adds_go (v : Value) (ts : List It) (x : It) (ep : Int) (w : World) (hv : PolRow w v ts) (hsz : ts.length * 152 ≤ 140737488351232) (hx : x.ok w) :
    Calls Try.prog 4 #[v, x.val, .int .i64 ep] w fun e w' => e = .returned (.bool true) ∧ Below w.heap.size w w' := lawAdds_walk pcheck_any padd_any v ts x ep w hv hsz hx
end Go.Proofs.Ytlabdbkmlkmnkaa
