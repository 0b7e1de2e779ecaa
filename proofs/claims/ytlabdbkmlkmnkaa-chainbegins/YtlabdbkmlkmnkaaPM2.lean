/-
  Nothing more of texts is asked here.
-/
import Derived.Test.YtlabdbkmlkmnkaaPM
namespace Pol8
end Pol8
