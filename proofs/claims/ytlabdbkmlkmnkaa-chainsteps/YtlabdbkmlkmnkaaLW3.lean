/-
  The law ChainSteps, over the program's own functions.
-/
import Derived.Test.YtlabdbkmlkmnkaaLW
import Derived.Test.YtlabdbkmlkmnkaaLS
namespace Go.Proofs.Ytlabdbkmlkmnkaa
open Go.RowKit
open Utf1 Pol8
theorem steps_go (x : It) (nn : Int) (w : World) (hx : x.ok w) :
    Calls Try.prog 7 #[x.val, .int .i64 nn] w fun e w' => e = .returned (.bool true) ∧ Below w.heap.size w w' := lawSteps_walk pcheck_any padd_any pright_any x nn w hx
end Go.Proofs.Ytlabdbkmlkmnkaa
