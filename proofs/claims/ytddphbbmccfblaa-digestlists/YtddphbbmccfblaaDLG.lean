/-
  The laws of layer 16 at the program's own Lacks, Join and Short.
-/
import Derived.Test.YtddphbbmccfblaaDLLists
import Derived.Test.YtddphbbmccfblaaDLMeets
import Derived.Test.YtddphbbmccfblaaDLRises
import Derived.Test.YtddphbbmccfblaaDLNone
import Derived.Test.YtddphbbmccfblaaDLShort
import Derived.Test.YtddphbbmccfblaaDLRoom
import Derived.Test.YtddphbbmccfblaaDP3
namespace Go.Proofs.Ytddphbbmccfblaa
open Go.RowKit
open Utf1
theorem most_le {m : Int} (h : (Lit.int .i64 m).wf = true) : m ≤ 9223372036854775807 := by
  have h2 : (decide ((-9223372036854775808 : Int) ≤ m) && decide (m ≤ 9223372036854775807)) = true := h
  simp only [Bool.and_eq_true, decide_eq_true_eq] at h2
  exact h2.2
theorem lists_go {v u : Value} {ls bs : List ByteArray} (w : World) (hv : StrArg w v ls) (hu : StrArg w u bs) : Calls Try.prog 3 #[v, u] w fun e w' => e = .returned (.bool true) ∧ Below w.heap.size w w' := lists_walk lacks_any join_any short_any w hv hu
theorem meets_go {v u : Value} {ls bs : List ByteArray} (w : World) (hv : StrArg w v ls) (hu : StrArg w u bs) : Calls Try.prog 5 #[v, u] w fun e w' => e = .returned (.bool true) ∧ Below w.heap.size w w' := meets_walk lacks_any join_any short_any w hv hu
theorem rises_go {v u : Value} {ls bs : List ByteArray} (w : World) (hv : StrArg w v ls) (hu : StrArg w u bs) : Calls Try.prog 6 #[v, u] w fun e w' => e = .returned (.bool true) ∧ Below w.heap.size w w' := rises_walk lacks_any join_any short_any w hv hu
theorem none_go {v : Value} {ls : List ByteArray} (w : World) (hv : StrArg w v ls) : Calls Try.prog 8 #[v] w fun e w' => e = .returned (.bool true) ∧ Below w.heap.size w w' := none_walk lacks_any join_any short_any w hv
theorem short_go {v u : Value} {ls : List ByteArray} {zs : List Int} {most : Int} (w : World) (hv : StrCap w v ls) (hu : IntArg w u zs ∧ zs.length ≤ 9223372036854775807) (hm : (Lit.int .i64 most).wf = true) : Calls Try.prog 4 #[v, u, .int .i64 most] w fun e w' => e = .returned (.bool true) ∧ Below w.heap.size w w' := short_walk lacks_any join_any short_any w hv hu.1 hu.2 (most_le hm)
theorem room_go {v u : Value} {ls : List ByteArray} {zs : List Int} {most : Int} (w : World) (hv : StrCap w v ls) (hu : IntArg w u zs ∧ zs.length ≤ 9223372036854775807) (hm : (Lit.int .i64 most).wf = true) : Calls Try.prog 7 #[v, u, .int .i64 most] w fun e w' => e = .returned (.bool true) ∧ Below w.heap.size w w' := room_walk lacks_any join_any short_any w hv hu.1 hu.2 (most_le hm)
end Go.Proofs.Ytddphbbmccfblaa
