/-
  The laws, their arguments in the row's order; the row's frame: what the listed variables hold is laid in the witness.
-/
import Derived.Test.YtnjbeehfnahdfaaDoorRows
import Derived.Test.YtnjbeehfnahdfaaDoorY15
import Derived.Test.YtnjbeehfnahdfaaDoorY16
import Derived.ProofKit
import Derived.LaidMore
import Derived.Lay
import Derived.Stop.Joined
namespace Go.Proofs.YtnjbeehfnahdfaaDoor
open Go.ChangeShapes Go.WideShapes Go.ChangeAt Go.RowKit
open Utf1 Sty

theorem row_own : ownKnob Tryd.prog.godebug = none := by kernel_rfl
theorem row_laidOut : laidOutB Tryd.prog = true := by kernel_rfl
def laidAll : List (String × DataW Unit) := [("unicode/utf8.acceptRanges", Rows.laid_unicode_utf8_acceptRanges), ("unicode/utf8.first", Rows.laid_unicode_utf8_first)]
theorem all_met (os : Os) (args : Array Value) : laidMetH Tryd.prog laidAll ((World.laidAll Tryd.prog os laidAll).forCall (fun _ _ => 0) ⟨#[], args, []⟩).memory := by
  rw [MakeChecks.laidMetH_plain _ _ _ (by kernel_rfl)]
  exact laidMet_laidAll _ (by kernel_rfl) (by kernel_rfl)
theorem all_shaped (os : Os) (args : Array Value) : ((World.laidAll Tryd.prog os laidAll).forCall (fun _ _ => 0) ⟨#[], args, []⟩).Shaped Tryd.prog := World.shaped_of_ZipB (by kernel_rfl) (by kernel_rfl)

theorem wFilters (s : ByteArray) (v : Value) (ss : List ByteArray) (w : World) {P : Prop} (_ : P) (hv : PArg w v ss) :
    Calls Tryd.prog 3 #[.string s, v] w fun e w' => e = .returned (.bool true) ∧ Below w.heap.size w w' := lawFilters_walk s v ss w hv.arg
theorem wValues (s : ByteArray) (w : World) {P : Prop} (_ : P) :
    Calls Tryd.prog 4 #[.string s] w fun e w' => e = .returned (.bool true) ∧ Below w.heap.size w w' := lawValues_walk s w
theorem wAgain (s : ByteArray) (v : Value) (ss : List ByteArray) (w : World) {P : Prop} (_ : P) (hv : PArg w v ss) :
    Calls Tryd.prog 5 #[.string s, v] w fun e w' => e = .returned (.bool true) ∧ Below w.heap.size w w' := lawAgain_walk s v ss w hv
theorem wFewer (s : ByteArray) (v : Value) (ss : List ByteArray) (n : Int) (w : World) {P Q : Prop} (_ : P) (hv : PArg w v ss) (_ : Q) :
    Calls Tryd.prog 6 #[.string s, v, .int .i64 n] w fun e w' => e = .returned (.bool true) ∧ Below w.heap.size w w' := lawFewer_walk s v ss n w hv
theorem wOne (n v o : ByteArray) (w : World) (h1 : n.size ≤ maxLen) {Q : Prop} (_ : Q) (h3 : o.size ≤ maxLen) :
    Calls Tryd.prog 7 #[.string n, .string v, .string o] w fun e w' => e = .returned (.bool true) ∧ Below w.heap.size w w' := lawOne_walk n v o w (by unfold maxLen at h1; omega) (by unfold maxLen at h3; omega)
theorem wTwo (a b : ByteArray) (w : World) {P Q : Prop} (_ : P) (_ : Q) :
    Calls Tryd.prog 8 #[.string a, .string b] w fun e w' => e = .returned (.bool true) ∧ Below w.heap.size w w' := lawTwo_walk a b w
end Go.Proofs.YtnjbeehfnahdfaaDoor
