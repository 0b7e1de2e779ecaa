/-
  What is asked of policy.Stricter and policy.Read.
-/
import Derived.Test.YtmogplecohkjcaaGreatDoorPC
namespace Go.Proofs.YtmogplecohkjcaaGreatDoor
open Go.RowKit
open Utf1 Pol8

/-- The two variables for wrong numbers hold something. -/
def GlobE (w : World) : Prop := (∃ te pe, w.cell? ⟨1, 0, none⟩ = some (.iface te pe)) ∧ (∃ te pe, w.cell? ⟨2, 0, none⟩ = some (.iface te pe))
theorem GlobE.below {w w' : World} (h : GlobE w) (hb : Below w.heap.size w w') : GlobE w' := by
  obtain ⟨⟨te, pe, h2⟩, ⟨tf, pf, h3⟩⟩ := h
  exact ⟨⟨te, pe, cell_keep h2 hb⟩, ⟨tf, pf, cell_keep h3 hb⟩⟩
/-- A slice in blocks from B on. -/
def NbV (B : Nat) (v : Value) : Prop := ∀ b off n c, v = .slice (some ⟨b, off, none⟩) n c → B ≤ b
theorem nbV_nil (B : Nat) : NbV B (.slice none 0 0) := fun _ _ _ _ h => (by cases h)
theorem NbV.le {A B : Nat} {v : Value} (h : NbV B v) (hA : A ≤ B) : NbV A v := fun b off n c e => Nat.le_trans hA (h b off n c e)
/-- Five of them. -/
structure Nb5 (B : Nat) (v1 v2 v3 v4 v5 : Value) : Prop where
  n1 : NbV B v1
  n2 : NbV B v2
  n3 : NbV B v3
  n4 : NbV B v4
  n5 : NbV B v5
theorem Nb5.nil (B : Nat) : Nb5 B (.slice none 0 0) (.slice none 0 0) (.slice none 0 0) (.slice none 0 0) (.slice none 0 0) := ⟨nbV_nil B, nbV_nil B, nbV_nil B, nbV_nil B, nbV_nil B⟩
theorem Nb5.le {A B : Nat} {v1 v2 v3 v4 v5 : Value} (h : Nb5 B v1 v2 v3 v4 v5) (hA : A ≤ B) : Nb5 A v1 v2 v3 v4 v5 := ⟨h.n1.le hA, h.n2.le hA, h.n3.le hA, h.n4.le hA, h.n5.le hA⟩
def ReadC : Prop := ∀ (s : ByteArray) (w : World), s.size ≤ 99999 → Glob w → GlobE w →
  Calls Tryz.prog 81 #[.string s] w fun e w' => (∃ v1 v2 v3 v4 v5 l1 l2 l3 l4 l5, e = .returned (.tuple #[pval ((readP (bl s)).getD Pol.zero) v1 v2 v3 v4 v5, .int .i64 (if (readP (bl s)).isSome = true then 0 else 2)]) ∧ PolV w' v1 v2 v3 v4 v5 ((readP (bl s)).getD Pol.zero) l1 l2 l3 l4 l5 ∧ Nb5 w.heap.size v1 v2 v3 v4 v5) ∧ Below w.heap.size w w'
end Go.Proofs.YtmogplecohkjcaaGreatDoor
