/-
  The laws over the program's own functions, their arguments in the row's order.
-/
import Derived.Test.YtclbkemfgmnfcaaUP3
import Derived.Test.YtclbkemfgmnfcaaUO
import Derived.Test.YtclbkemfgmnfcaaULN
import Derived.Test.YtclbkemfgmnfcaaULP
import Derived.Test.YtclbkemfgmnfcaaULH
import Derived.Test.YtclbkemfgmnfcaaULM
namespace Go.Proofs.Ytclbkemfgmnfcaa
open Go.RowKit
open Utf1

theorem wSchemes (s : ByteArray) (w : World) {P : Prop} (_ : P) :
    Calls Try.prog 3 #[.string s] w fun e w' => e = .returned (.bool true) ∧ Below w.heap.size w w' := lawSchemes_walk bare_any scheme_any allowed_any s w
theorem wAllows (s : ByteArray) (v : Value) (ss : List ByteArray) (w : World) {P : Prop} (_ : P) (hv : StrArg w v ss) :
    Calls Try.prog 4 #[.string s, v] w fun e w' => e = .returned (.bool true) ∧ Below w.heap.size w w' := lawAllows_walk scheme_any allowed_any s v ss w hv
theorem wHides (s : ByteArray) (n c : Int) (w : World) {P : Prop} (_ : P) (hn : (Lit.int .i64 n).wf = true) (hc : (Lit.int .u8 c).wf = true) :
    Calls Try.prog 5 #[.string s, .int .i64 n, .int .u8 c] w fun e w' => e = .returned (.bool true) ∧ Below w.heap.size w w' := lawHides_walk bare_any scheme_any allowed_any s n c w hn hc
theorem wMore (s : ByteArray) (v : Value) (ss : List ByteArray) (m : ByteArray) (w : World) {P Q : Prop} (_ : P) (hv : StrArg w v ss) (_ : Q) :
    Calls Try.prog 6 #[.string s, v, .string m] w fun e w' => e = .returned (.bool true) ∧ Below w.heap.size w w' := lawMore_walk scheme_any allowed_any s v ss m w hv
theorem wPlain (s t : ByteArray) (w : World) {P Q : Prop} (_ : P) (_ : Q) :
    Calls Try.prog 7 #[.string s, .string t] w fun e w' => e = .returned (.bool true) ∧ Below w.heap.size w w' := lawPlain_walk scheme_any allowed_any s t w
theorem wNone (s : ByteArray) (w : World) {P : Prop} (_ : P) :
    Calls Try.prog 8 #[.string s] w fun e w' => e = .returned (.bool true) ∧ Below w.heap.size w w' := lawNone_walk scheme_any allowed_any s w
end Go.Proofs.Ytclbkemfgmnfcaa
