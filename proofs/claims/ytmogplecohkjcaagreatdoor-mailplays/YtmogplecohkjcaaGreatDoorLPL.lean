/-
  The law MailPlays of the landed package.
-/
import Derived.Test.YtmogplecohkjcaaGreatDoorMPX
import Derived.Test.YtmogplecohkjcaaGreatDoorML5
namespace Go.Proofs.YtmogplecohkjcaaGreatDoor
open Go.RowKit

theorem plays_go {v : Value} {os : List MOp} (w : World) (hg : Glob w) (hge : GlobE w) (hv : OpRow w v os) :
    Calls Tryz.prog 3 #[v] w fun e w' => e = .returned (.bool true) ∧ Below w.heap.size w w' := plays_walk mailC w ⟨hg, hge⟩ hv
end Go.Proofs.YtmogplecohkjcaaGreatDoor
