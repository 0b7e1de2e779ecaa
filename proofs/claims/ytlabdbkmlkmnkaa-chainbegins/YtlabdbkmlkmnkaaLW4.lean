/-
  The law ChainBegins, over the program's own functions.
-/
import Derived.Test.YtlabdbkmlkmnkaaLW
import Derived.Test.YtlabdbkmlkmnkaaLB
namespace Go.Proofs.Ytlabdbkmlkmnkaa
open Go.RowKit
open Utf1 Pol8
theorem begins_go (v : Value) (ts : List It) (nn : Int) (w : World) (hv : PolRow w v ts) :
    Calls Try.prog 5 #[v, .int .i64 nn] w fun e w' => e = .returned (.bool true) ∧ Below w.heap.size w w' := lawBegins_walk pcheck_any padd_any pstrict_any v ts nn w hv
end Go.Proofs.Ytlabdbkmlkmnkaa
