/-
  The law ChainChecks, over the program's own functions.
-/
import Derived.Test.YtlabdbkmlkmnkaaLW
import Derived.Test.YtlabdbkmlkmnkaaLC1
namespace Go.Proofs.Ytlabdbkmlkmnkaa
open Go.RowKit
open Utf1 Pol8
theorem checks_go (v : Value) (ts : List It) (w : World) (hv : PolRow w v ts) :
    Calls Try.prog 3 #[v] w fun e w' => e = .returned (.bool true) ∧ Below w.heap.size w w' := lawChecks_walk pcheck_any padd_any v ts w hv
end Go.Proofs.Ytlabdbkmlkmnkaa
