/-
  The document's Right of a message, walked.
-/
import Derived.Test.YtebcpmgooodmpabGreatDoorMD6
import Derived.Test.YtebcpmgooodmpabGreatDoorQZ
namespace Go.Proofs.YtebcpmgooodmpabGreatDoor
open Go.RowKit
open Utf1
open Pol8 hiding text right Right
open Msg15

theorem PolV.zero (w : World) (hg : Glob w) : PolV w (.slice none 0 0) (.slice none 0 0) (.slice none 0 0) (.slice none 0 0) (.slice none 0 0) Pol.zero [] [] [] [] [] :=
  have h : StrArg w (.slice none 0 0) [] := ⟨none, 0, rfl, fun _ => rfl, fun i a h => by simp at h⟩
  ⟨h, h, h, h, h, rfl, rfl, rfl, rfl, rfl, hg⟩
theorem fits_zero : fits Pol.zero := by
  intro l hl
  have : l = [] := by
    simp [Pol.zero] at hl
    exact hl
  subst this
  exact ⟨by simp, fun x hx => by cases hx⟩

theorem mright_go {m : Ms} (a : 0 ≤ m.fr ∧ m.fr ≤ 5 ∧ 0 ≤ m.to ∧ m.to ≤ 5 ∧ m.fr ≠ m.to ∧ 0 ≤ m.ep ∧ m.ep ≤ 1000000 ∧ 1 ≤ m.kind ∧ m.kind ≤ 4) (h1 : m.kind ≠ 1 → m.ids = []) (h2 : m.kind ≠ 2 → m.posts = []) (h3 : m.kind ≠ 3 → m.pol = Pol.zero) (h4 : m.kind = 2 ∨ m.kind = 3 → m.ep = 0) :
    (m.kind = 3 → (Pol8.right m.pol = true ↔ MRight m)) ∧ (m.kind ≠ 3 → (∀ p ∈ m.posts, p.2.length ≤ 2000) → ((riseI m.ids = true ∧ riseI (m.posts.map (·.1)) = true) ↔ MRight m)) := by
  obtain ⟨a1, a2, a3, a4, a5, a6, a7, a8, a9⟩ := a
  refine ⟨fun hk => ⟨fun h => ⟨⟨a1, a2⟩, ⟨a3, a4⟩, a5, ⟨a6, a7⟩, ⟨a8, a9⟩, h1, h2, h3, h4, fun _ => h, ?_, ?_, ?_⟩, fun h => h.rpol hk⟩, fun hk hr => ⟨fun h => ⟨⟨a1, a2⟩, ⟨a3, a4⟩, a5, ⟨a6, a7⟩, ⟨a8, a9⟩, h1, h2, h3, h4, fun h => absurd h hk, h.1, h.2, hr⟩, fun h => ⟨h.rids, h.rposts⟩⟩⟩
  · rw [h1 (by omega)]
    decide
  · rw [h2 (by omega)]
    decide
  · rw [h2 (by omega)]
    intro p hp
    cases hp

end Go.Proofs.YtebcpmgooodmpabGreatDoor
