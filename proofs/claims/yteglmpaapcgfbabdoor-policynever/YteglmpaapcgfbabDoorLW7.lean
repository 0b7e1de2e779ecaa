/-
  The law PolicyNever, over the program's own functions.
-/
import Derived.Test.YteglmpaapcgfbabDoorPL7
namespace Go.Proofs.YteglmpaapcgfbabDoor
open Go.RowKit
open Utf1 Pol8
theorem never_go {v1 v2 v3 v4 v5 : Value} {p : Pol} {l1 l2 l3 l4 l5 : List ByteArray} (name : ByteArray) (w : World) (hv : PolV w v1 v2 v3 v4 v5 p l1 l2 l3 l4 l5) :
    Calls Tryd.prog 3 #[pval p v1 v2 v3 v4 v5, .string name] w fun e w' => e = .returned (.bool true) ∧ Below w.heap.size w w' :=
  lawNever_walk ptext_any pright_any pattrB_any v1 v2 v3 v4 v5 p l1 l2 l3 l4 l5 name w hv
end Go.Proofs.YteglmpaapcgfbabDoor
