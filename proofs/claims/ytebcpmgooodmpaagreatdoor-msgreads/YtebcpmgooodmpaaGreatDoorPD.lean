/-
  What is asked of policy.Stricter and policy.Read.
-/
import Derived.Test.YtebcpmgooodmpaaGreatDoorPC
namespace Go.Proofs.YtebcpmgooodmpaaGreatDoor
open Go.RowKit
open Utf1 Pol8

/-- The two variables for wrong numbers hold something. -/
def GlobE (w : World) : Prop := (∃ te pe, w.cell? ⟨1, 0, none⟩ = some (.iface te pe)) ∧ (∃ te pe, w.cell? ⟨2, 0, none⟩ = some (.iface te pe))
theorem GlobE.below {w w' : World} (h : GlobE w) (hb : Below w.heap.size w w') : GlobE w' := by
  obtain ⟨⟨te, pe, h2⟩, ⟨tf, pf, h3⟩⟩ := h
  exact ⟨⟨te, pe, cell_keep h2 hb⟩, ⟨tf, pf, cell_keep h3 hb⟩⟩
def ReadC : Prop := ∀ (s : ByteArray) (w : World), s.size ≤ 99999 → Glob w → GlobE w →
  Calls Tryz.prog 66 #[.string s] w fun e w' => (∃ v1 v2 v3 v4 v5 l1 l2 l3 l4 l5, e = .returned (.tuple #[pval ((readP (bl s)).getD Pol.zero) v1 v2 v3 v4 v5, .int .i64 (if (readP (bl s)).isSome = true then 0 else 2)]) ∧ PolV w' v1 v2 v3 v4 v5 ((readP (bl s)).getD Pol.zero) l1 l2 l3 l4 l5) ∧ Below w.heap.size w w'
end Go.Proofs.YtebcpmgooodmpaaGreatDoor
