/-
  The laws over the program's own functions: ChainChecks.
-/
import Derived.Test.YtlabdbkmlkmnkaaLC1
import Derived.Test.YtlabdbkmlkmnkaaR5
import Derived.Test.YtlabdbkmlkmnkaaR8
namespace Go.Proofs.Ytlabdbkmlkmnkaa
open Go.RowKit
open Utf1 Pol8
theorem pcheck_any : CheckC := check_any pright_any pstrict_any
theorem padd_any : AddC := add_any pcheck_any
theorem checks_go (v : Value) (ts : List It) (w : World) (hv : PolRow w v ts) :
    Calls Try.prog 3 #[v] w fun e w' => e = .returned (.bool true) ∧ Below w.heap.size w w' := lawChecks_walk pcheck_any padd_any v ts w hv
end Go.Proofs.Ytlabdbkmlkmnkaa
