/-
  The law ChainGrows, over the program's own functions.
-/
import Derived.Test.YtlabdbkmlkmnkaaLW
import Derived.Test.YtlabdbkmlkmnkaaLC2
namespace Go.Proofs.Ytlabdbkmlkmnkaa
open Go.RowKit
open Utf1 Pol8
theorem grows_go (v : Value) (ts : List It) (w : World) (hv : PolRow w v ts) :
    Calls Try.prog 6 #[v] w fun e w' => e = .returned (.bool true) ∧ Below w.heap.size w w' := lawGrows_walk pcheck_any padd_any v ts w hv
end Go.Proofs.Ytlabdbkmlkmnkaa
