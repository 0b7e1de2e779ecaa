/-
  Two policies' parameters in their blocks.
-/
import Derived.Test.YtbcadeikdmlpoaaGreatDoorPW
namespace Go.Proofs.YtbcadeikdmlpoaaGreatDoor
open Go.RowKit
open Utf1 Pol8

/-- Two policies' parameters in their blocks. -/
def BoxQ (w : World) (A B : Array Value) (wx : World) : Prop := wx.heap[w.heap.size]? = some (.cells A 24 (0, 0)) ∧ wx.heap[w.heap.size + 1]? = some (.cells B 24 (0, 0)) ∧ Below w.heap.size w wx
theorem BoxQ.keep {w wx wy : World} {A B : Array Value} (h : BoxQ w A B wx) (hb : Below wx.heap.size wx wy) : BoxQ w A B wy :=
  ⟨(hb.block _ (Array.getElem?_eq_some_iff.1 h.1).1).trans h.1, (hb.block _ (Array.getElem?_eq_some_iff.1 h.2.1).1).trans h.2.1, h.2.2.trans (hb.mono h.2.2.size)⟩
theorem BoxQ.a {w wx : World} {A B : Array Value} (h : BoxQ w A B wx) (i : Nat) (v : Value) (hv : A[i]? = some v) : wx.cell? ⟨w.heap.size, i, none⟩ = some v := tag_cell h.1 i v hv
theorem BoxQ.b {w wx : World} {A B : Array Value} (h : BoxQ w A B wx) (i : Nat) (v : Value) (hv : B[i]? = some v) : wx.cell? ⟨w.heap.size + 1, i, none⟩ = some v := tag_cell h.2.1 i v hv
theorem BoxQ.new (w : World) (A B : Array Value) : BoxQ w A B ((w.alloc (.cells A 24)).alloc (.cells B 24)) := by
  have s1 : (w.alloc (.cells A 24)).heap.size = w.heap.size + 1 := by simp
  have k2 := new_block (w.alloc (.cells A 24)) B 24
  rw [s1] at k2
  refine ⟨?_, k2, bel_alloc (bel_alloc (Below.refl _ _) _) _⟩
  rw [Below.heap_alloc _ _ _ (by rw [s1]; omega)]
  exact new_block _ _ _
end Go.Proofs.YtbcadeikdmlpoaaGreatDoor
