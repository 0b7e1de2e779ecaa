/-
  A region that draws its order: an operation is taken first, the frame behind it by its own name.
-/
import Derived.Test.YtmogplecohkjcaaGreatDoorPH
import Derived.Deep.RegionHeld3
namespace Go.Proofs.YtmogplecohkjcaaGreatDoor
open Go.RowKit
theorem wpAnyH_to {P : Program} {ops : Array Oper} {Q : Exit → Act → World → Prop} {md : Region.Mode} {S : World → Prop} {i : Nat} {oi : Oper} {v : Value} {fuel : Nat} {listed : Array Bool} {a a1 : Act} {w : World} (hi : ops[i]? = some oi)
    (hs : Region.noSelect ops = true) (hf : Region.free md ops listed i = true) (hr : (Region.ready md ops listed).contains i = true)
    (hQ : ∀ c a w, Q (.panic c) (a.put oi.dst v) w → Q (.panic c) a w) (hy : YieldsIf P ops S oi v a) (hS : S w) (ha : a.put oi.dst v = a1)
    (h : wpAnyH P md ops Q S fuel (listed.setIfInBounds i true) a1 w) : wpAnyH P md ops Q S (fuel + 1) listed a w := by
  subst ha
  exact wpAnyH_take hi hs hf hr hQ hy hS h
end Go.Proofs.YtmogplecohkjcaaGreatDoor
