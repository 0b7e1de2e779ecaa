/-
  What is asked of policy.Right, Elem and Attr.
-/
import Derived.Test.YtbcadeikdmlpoaaDoorQ12
import Derived.KernelRfl
namespace Go.Proofs.YtbcadeikdmlpoaaDoor
open Go.RowKit
open Utf1 Pol8

/-- A policy's value. -/
abbrev pval (p : Pol) (v1 v2 v3 v4 v5 : Value) : Value := .agg #[.int .i64 p.ep, v1, v2, v3, v4, v5, .int .i64 p.dp, .int .i64 p.nd, .int .i64 p.bt]
def RightC : Prop := ∀ (v1 v2 v3 v4 v5 : Value) (p : Pol) (l1 l2 l3 l4 l5 : List ByteArray) (w : World), PolV w v1 v2 v3 v4 v5 p l1 l2 l3 l4 l5 → fits p →
  Calls Tryd.prog 15 #[pval p v1 v2 v3 v4 v5] w fun e w' => e = .returned (.bool (right p)) ∧ Below w.heap.size w w'
def ElemC : Prop := ∀ (v1 v2 v3 v4 v5 : Value) (p : Pol) (l1 l2 l3 l4 l5 : List ByteArray) (x : ByteArray) (w : World), PolV w v1 v2 v3 v4 v5 p l1 l2 l3 l4 l5 → fits p → x.size ≤ 100000 →
  Calls Tryd.prog 17 #[pval p v1 v2 v3 v4 v5, .string x] w fun e w' => e = .returned (.bool (decide (bl x ∈ p.el))) ∧ Below w.heap.size w w'
def AttrC : Prop := ∀ (v1 v2 v3 v4 v5 : Value) (p : Pol) (l1 l2 l3 l4 l5 : List ByteArray) (x y : ByteArray) (w : World), PolV w v1 v2 v3 v4 v5 p l1 l2 l3 l4 l5 → fits p → x.size ≤ 100000 → y.size ≤ 100000 →
  Calls Tryd.prog 19 #[pval p v1 v2 v3 v4 v5, .string x, .string y] w fun e w' => e = .returned (.bool (attrB p (bl x) (bl y))) ∧ Below w.heap.size w w'
end Go.Proofs.YtbcadeikdmlpoaaDoor
