/-
  The tree's builder: cloneAttrs of none.
-/
import Derived.Test.YtholfdfjapgfbaaGreatDoorG15
namespace Go.Proofs.YtholfdfjapgfbaaGreatDoor.Dm
open Go.RowKit
open Utf1

set_option maxRecDepth 100000 in
set_option maxHeartbeats 8000000 in
theorem clone_nil (w : World) : Calls Tryz.prog 57 #[.slice none 0 0] w fun e w' => e = .returned (.slice none 0 0) ∧ w' = w := by
  go_enter Tryz.func57, Tryz.ntmps57
  go_wp2_with fail
  go_loopg [3, 8] 0 (fun k v3 v8 wr => v3 = .slice none 0 0 ∧ v8 = .int .i64 0 ∧ wr = w)
  case atStart => exact ⟨rfl, rfl, rfl⟩
  case round =>
    obtain ⟨rfl, rfl, rfl⟩ := hrel
    go_wp2_with fail
    go_ret
    exact ⟨rfl, rfl⟩
end Go.Proofs.YtholfdfjapgfbaaGreatDoor.Dm
