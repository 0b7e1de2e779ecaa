/-
  The tokens' texts, all of them.
-/
import Derived.Test.YtholfdfjapgfbaaDoorB7
