/-
  The document's Light of a message, walked.
-/
import Derived.Test.YtebcpmgooodmpabGreatDoorMD5
import Derived.Test.YtebcpmgooodmpabGreatDoorQ12
namespace Go.Proofs.YtebcpmgooodmpabGreatDoor
open Go.RowKit
open Utf1
open Pol8 hiding text right Right
open Msg15

/-- What a light message holds. -/
def mSum (l : List L) : Nat := (l.map (fun s => min s.length 100000)).sum
theorem mSum_step (l : List L) (k : Nat) (s : L) (h : l[k]? = some s) : mSum (l.take (k + 1)) = mSum (l.take k) + min s.length 100000 := by
  unfold mSum
  rw [List.take_add_one, h, List.map_append, List.sum_append]
  simp

/-- What a parameter's box holds. -/
def MBox (w : World) (A : Array Value) (wx : World) : Prop := wx.heap[w.heap.size]? = some (.cells A 33 (0, 0)) ∧ Below w.heap.size w wx
theorem MBox.keep {w wx wy : World} {A : Array Value} (h : MBox w A wx) (hb : Below wx.heap.size wx wy) : MBox w A wy :=
  ⟨(hb.block _ (Array.getElem?_eq_some_iff.1 h.1).1).trans h.1, h.2.trans (hb.mono h.2.size)⟩
theorem MBox.cell {w wx : World} {A : Array Value} (h : MBox w A wx) (i : Nat) (v : Value) (hi : A[i]? = some v) : wx.cell? ⟨w.heap.size, i, none⟩ = some v := tag_cell h.1 i v hi

end Go.Proofs.YtebcpmgooodmpabGreatDoor
