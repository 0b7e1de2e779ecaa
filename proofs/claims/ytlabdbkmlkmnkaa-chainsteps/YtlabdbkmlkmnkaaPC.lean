/-
  What is asked of policy.Right.
-/
import Derived.Test.YtlabdbkmlkmnkaaQ12
import Derived.KernelRfl
namespace Go.Proofs.Ytlabdbkmlkmnkaa
open Go.RowKit
open Utf1 Pol8

/-- A policy's value. -/
abbrev pval (p : Pol) (v1 v2 v3 v4 v5 : Value) : Value := .agg #[.int .i64 p.ep, v1, v2, v3, v4, v5, .int .i64 p.dp, .int .i64 p.nd, .int .i64 p.bt]
def RightC : Prop := ∀ (v1 v2 v3 v4 v5 : Value) (p : Pol) (l1 l2 l3 l4 l5 : List ByteArray) (w : World), PolV w v1 v2 v3 v4 v5 p l1 l2 l3 l4 l5 → fits p →
  Calls Try.prog 18 #[pval p v1 v2 v3 v4 v5] w fun e w' => e = .returned (.bool (right p)) ∧ Below w.heap.size w w'
end Go.Proofs.Ytlabdbkmlkmnkaa
