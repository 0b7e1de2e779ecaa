/-
  The tree's builder: cloneAttrs of none.
-/
import Derived.Test.YtkdppcpkigpmdaaG15
namespace Go.Proofs.Ytkdppcpkigpmdaa
open Go.RowKit
open Utf1

set_option maxRecDepth 100000 in
set_option maxHeartbeats 8000000 in
theorem clone_nil (w : World) : Calls Try.prog 44 #[.slice none 0 0] w fun e w' => e = .returned (.slice none 0 0) ∧ w' = w := by
  go_enter Try.func44, Try.ntmps44
  go_wp2_with fail
  go_loopg [3, 8] 0 (fun k v3 v8 wr => v3 = .slice none 0 0 ∧ v8 = .int .i64 0 ∧ wr = w)
  case atStart => exact ⟨rfl, rfl, rfl⟩
  case round =>
    obtain ⟨rfl, rfl, rfl⟩ := hrel
    go_wp2_with fail
    go_ret
    exact ⟨rfl, rfl⟩
end Go.Proofs.Ytkdppcpkigpmdaa
