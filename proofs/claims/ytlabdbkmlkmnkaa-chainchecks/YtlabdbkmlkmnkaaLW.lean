/-
  Check and Add of the program itself, by the contracts of policy.Right and policy.Stricter.
-/
import Derived.Test.YtlabdbkmlkmnkaaCW
import Derived.Test.YtlabdbkmlkmnkaaR5
import Derived.Test.YtlabdbkmlkmnkaaR8
namespace Go.Proofs.Ytlabdbkmlkmnkaa
open Go.RowKit
open Utf1 Pol8
theorem pcheck_any : CheckC := check_any pright_any pstrict_any
theorem padd_any : AddC := add_any pcheck_any
end Go.Proofs.Ytlabdbkmlkmnkaa
