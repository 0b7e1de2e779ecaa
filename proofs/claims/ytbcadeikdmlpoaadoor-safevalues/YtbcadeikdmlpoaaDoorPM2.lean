/-
  Nothing more of texts is asked here.
-/
import Derived.Test.YtbcadeikdmlpoaaDoorPM
namespace Pol8
end Pol8
