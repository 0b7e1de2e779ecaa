/-
  What is asked of the functions of package policy, and awake.
-/
import Derived.Test.YtmogplecohkjcaaGreatDoorQ12
import Derived.KernelRfl
namespace Go.Proofs.YtmogplecohkjcaaGreatDoor
open Go.RowKit
open Utf1 Pol8

/-- A policy's value. -/
abbrev pval (p : Pol) (v1 v2 v3 v4 v5 : Value) : Value := .agg #[.int .i64 p.ep, v1, v2, v3, v4, v5, .int .i64 p.dp, .int .i64 p.nd, .int .i64 p.bt]
def RightC : Prop := ∀ (v1 v2 v3 v4 v5 : Value) (p : Pol) (l1 l2 l3 l4 l5 : List ByteArray) (w : World), PolV w v1 v2 v3 v4 v5 p l1 l2 l3 l4 l5 → fits p →
  Calls Tryz.prog 38 #[pval p v1 v2 v3 v4 v5] w fun e w' => e = .returned (.bool (right p)) ∧ Below w.heap.size w w'
def TextC : Prop := ∀ (v1 v2 v3 v4 v5 : Value) (p : Pol) (l1 l2 l3 l4 l5 : List ByteArray) (w : World), PolV w v1 v2 v3 v4 v5 p l1 l2 l3 l4 l5 → fits p →
  Calls Tryz.prog 76 #[pval p v1 v2 v3 v4 v5] w fun e w' => e = .returned (.tuple #[.string (if right p = true then ⟨(text p).toArray⟩ else ⟨#[]⟩), .int .i64 (if right p = true then 0 else 2)]) ∧ Below w.heap.size w w'
def ElemC : Prop := ∀ (v1 v2 v3 v4 v5 : Value) (p : Pol) (l1 l2 l3 l4 l5 : List ByteArray) (x : ByteArray) (w : World), PolV w v1 v2 v3 v4 v5 p l1 l2 l3 l4 l5 → fits p → x.size ≤ 100000 →
  Calls Tryz.prog 50 #[pval p v1 v2 v3 v4 v5, .string x] w fun e w' => e = .returned (.bool (decide (bl x ∈ p.el))) ∧ Below w.heap.size w w'
def awP : Pol := ⟨1, [[97]], [[97, 46, 104, 114, 101, 102]], [], [], [], 9, 99, 999⟩
theorem awP_right : right awP = true := by kernel_rfl
theorem awP_attr : attrB awP [97] [104, 114, 101, 102] = true := by kernel_rfl
theorem awP_text : text awP = [101, 112, 111, 99, 104, 32, 49, 10, 101, 108, 101, 109, 32, 97, 10, 97, 116, 116, 114, 32, 97, 46, 104, 114, 101, 102, 10, 99, 97, 112, 115, 32, 57, 32, 57, 57, 32, 57, 57, 57, 10] := by
  have d1 : dec 1 = [49] := dec_small 1 (by omega)
  have d9 : dec 9 = [57] := dec_small 9 (by omega)
  have d99 : dec 99 = [57, 57] := by
    rw [dec_big 99 (by omega), show 99 / 10 = 9 from rfl, d9]
    rfl
  have d999 : dec 999 = [57, 57, 57] := by
    rw [dec_big 999 (by omega), show 999 / 10 = 99 from rfl, d99]
    rfl
  show kEpoch ++ [32] ++ dec 1 ++ [10] ++ lns kElem [[97]] ++ lns kAttr [[97, 46, 104, 114, 101, 102]] ++ lns kScheme [] ++ lns kClass [] ++ lns kProp [] ++ kCaps ++ [32] ++ dec 9 ++ [32] ++ dec 99 ++ [32] ++ dec 999 ++ [10] = _
  rw [d1, d9, d99, d999]
  rfl
theorem awP_fits : fits awP := by
  intro l hl
  simp only [awP, List.mem_cons, List.not_mem_nil, or_false] at hl
  rcases hl with rfl | rfl | rfl | rfl | rfl <;> simp
theorem one_row (w : World) (x : ByteArray) (t : TypeId) : StrArg (w.alloc (.cells #[.string x] t)) (.slice (some ⟨w.heap.size, 0, none⟩) 1 1) [x] := strArg_row w [x] t

end Go.Proofs.YtmogplecohkjcaaGreatDoor
