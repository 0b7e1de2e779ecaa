/-
  The law PolicyReads, over the program's own functions.
-/
import Derived.Test.YteglmpaapcgfbaaDoorPL4
import Derived.Test.YteglmpaapcgfbaaDoorR6
import Derived.Test.YteglmpaapcgfbaaDoorR17
namespace Go.Proofs.YteglmpaapcgfbaaDoor
open Go.RowKit
open Utf1 Pol8
theorem reads_go (s : ByteArray) (w : World) (hg : Glob w) (hge : GlobE w) :
    Calls Tryd.prog 4 #[.string s] w fun e w' => e = .returned (.bool true) ∧ Below w.heap.size w w' :=
  lawReads_walk ptext_any pright_any pattrB_any pread_any rread_any s w hg hge
end Go.Proofs.YteglmpaapcgfbaaDoor
