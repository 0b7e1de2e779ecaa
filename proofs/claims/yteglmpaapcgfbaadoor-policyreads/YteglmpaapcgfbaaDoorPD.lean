/-
  What is asked of policy.Stricter and policy.Read.
-/
import Derived.Test.YteglmpaapcgfbaaDoorPC
namespace Go.Proofs.YteglmpaapcgfbaaDoor
open Go.RowKit
open Utf1 Pol8

/-- The two variables for wrong numbers hold something. -/
def GlobE (w : World) : Prop := (∃ te pe, w.cell? ⟨2, 0, none⟩ = some (.iface te pe)) ∧ (∃ te pe, w.cell? ⟨3, 0, none⟩ = some (.iface te pe))
theorem GlobE.below {w w' : World} (h : GlobE w) (hb : Below w.heap.size w w') : GlobE w' := by
  obtain ⟨⟨te, pe, h2⟩, ⟨tf, pf, h3⟩⟩ := h
  exact ⟨⟨te, pe, cell_keep h2 hb⟩, ⟨tf, pf, cell_keep h3 hb⟩⟩
def StricterC : Prop := ∀ (v1 v2 v3 v4 v5 u1 u2 u3 u4 u5 : Value) (p q : Pol) (l1 l2 l3 l4 l5 m1 m2 m3 m4 m5 : List ByteArray) (w : World), PolV w v1 v2 v3 v4 v5 p l1 l2 l3 l4 l5 → PolV w u1 u2 u3 u4 u5 q m1 m2 m3 m4 m5 → fits p → fits q →
  Calls Tryd.prog 22 #[pval p v1 v2 v3 v4 v5, pval q u1 u2 u3 u4 u5] w fun e w' => e = .returned (.bool (stricter p q)) ∧ Below w.heap.size w w'
def ReadC : Prop := ∀ (s : ByteArray) (w : World), s.size ≤ 99999 → Glob w → GlobE w →
  Calls Tryd.prog 15 #[.string s] w fun e w' => (∃ v1 v2 v3 v4 v5 l1 l2 l3 l4 l5, e = .returned (.tuple #[pval ((readP (bl s)).getD Pol.zero) v1 v2 v3 v4 v5, .int .i64 (if (readP (bl s)).isSome = true then 0 else 2)]) ∧ PolV w' v1 v2 v3 v4 v5 ((readP (bl s)).getD Pol.zero) l1 l2 l3 l4 l5) ∧ Below w.heap.size w w'
end Go.Proofs.YteglmpaapcgfbaaDoor
