/-
  ser.partOf: a text or an element.
-/
import Derived.Test.YtbcadeikdmlpoaaDoorN0
namespace Go.Proofs.YtbcadeikdmlpoaaDoor.Dm
open Go.RowKit
open Utf1

theorem new_block (w : World) (A : Array Value) (t : TypeId) : (w.alloc (.cells A t)).heap[w.heap.size]? = some (.cells A t (0, 0)) := by
  show (w.heap.push _)[w.heap.size]? = _
  simp

theorem partOf_text (w : World) (ap : Option Addr) (am ac : Nat) (XN XT : ByteArray) (kp : Option Addr) (km kc : Nat) (h : XN.toList.isEmpty = true) :
    Calls Tryd.prog 80 #[.agg #[.string XN, .slice ap am ac, .string XT, .slice kp km kc]] w fun e w' => e = .returned (.iface 103 (.agg #[.string XN, .slice ap am ac, .string XT, .slice kp km kc])) ∧ Below w.heap.size w w' := by
  go_enter Tryd.func80, Tryd.ntmps80
  go_wp2_with fail
  go_ret
  exact ⟨rfl, (Below.refl _ _).alloc (Nat.le_refl _) _⟩
theorem partOf_elem (w : World) (ap : Option Addr) (am ac : Nat) (XN XT : ByteArray) (kp : Option Addr) (km kc : Nat) (h : XN.toList.isEmpty = false) :
    Calls Tryd.prog 80 #[.agg #[.string XN, .slice ap am ac, .string XT, .slice kp km kc]] w fun e w' => e = .returned (.iface 104 (.agg #[.string XN, .slice ap am ac, .string XT, .slice kp km kc])) ∧ Below w.heap.size w w' := by
  go_enter Tryd.func80, Tryd.ntmps80
  go_wp2_with fail
  go_ret
  exact ⟨rfl, (Below.refl _ _).alloc (Nat.le_refl _) _⟩
end Go.Proofs.YtbcadeikdmlpoaaDoor.Dm
