/-
  What is asked of policy.Stricter.
-/
import Derived.Test.YtbcadeikdmlpoaaGreatDoorPC
namespace Go.Proofs.YtbcadeikdmlpoaaGreatDoor
open Go.RowKit
open Utf1 Pol8

def StricterC : Prop := ∀ (v1 v2 v3 v4 v5 u1 u2 u3 u4 u5 : Value) (p q : Pol) (l1 l2 l3 l4 l5 m1 m2 m3 m4 m5 : List ByteArray) (w : World), PolV w v1 v2 v3 v4 v5 p l1 l2 l3 l4 l5 → PolV w u1 u2 u3 u4 u5 q m1 m2 m3 m4 m5 → fits p → fits q →
  Calls Tryz.prog 11 #[pval p v1 v2 v3 v4 v5, pval q u1 u2 u3 u4 u5] w fun e w' => e = .returned (.bool (stricter p q)) ∧ Below w.heap.size w w'
end Go.Proofs.YtbcadeikdmlpoaaGreatDoor
