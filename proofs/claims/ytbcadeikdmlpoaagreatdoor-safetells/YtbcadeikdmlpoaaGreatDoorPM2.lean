/-
  Nothing more of texts is asked here.
-/
import Derived.Test.YtbcadeikdmlpoaaGreatDoorPM
namespace Pol8
end Pol8
