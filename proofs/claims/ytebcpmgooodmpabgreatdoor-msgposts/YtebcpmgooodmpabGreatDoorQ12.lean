/-
  Light: which policies are gone through in the laws.
-/
import Derived.Test.YtebcpmgooodmpabGreatDoorPW
namespace Pol8
def Pol.lists (p : Pol) : List (List L) := [p.el, p.at_, p.sc, p.cl, p.pr]
/-- The size of a list's texts. -/
def sizeL (l : List L) : Nat := (l.map fun x => x.length).sum
def sizeM (l : List L) : Nat := (l.map fun x => min x.length 10000).sum
/-- Lists of at most 100 texts, of less than 6000 bytes in all. -/
def light (p : Pol) : Prop := (∀ l ∈ p.lists, l.length ≤ 100) ∧ (p.lists.map sizeL).sum < 6000
theorem mem_sum : ∀ (l : List Nat) (x : Nat), x ∈ l → x ≤ l.sum
  | y :: l, x, h => by
    rw [List.sum_cons]
    rcases List.mem_cons.1 h with rfl | h
    · omega
    · have := mem_sum l x h
      omega
theorem sizeM_eq : ∀ (l : List L), sizeM l < 6000 → sizeM l = sizeL l
  | [], _ => rfl
  | x :: l, h => by
    have e : sizeM (x :: l) = min x.length 10000 + sizeM l := by simp [sizeM]
    have e2 : sizeL (x :: l) = x.length + sizeL l := by simp [sizeL]
    rw [e] at h
    have := sizeM_eq l (by omega)
    rw [e, e2, this]
    omega
theorem sizeMs_eq : ∀ (ls : List (List L)), (ls.map sizeM).sum < 6000 → (ls.map sizeM).sum = (ls.map sizeL).sum
  | [], _ => rfl
  | l :: ls, h => by
    rw [List.map_cons, List.sum_cons] at h
    rw [List.map_cons, List.sum_cons, List.map_cons, List.sum_cons, sizeM_eq l (by omega), sizeMs_eq ls (by omega)]
theorem sizeM_step (l : List L) (k : Nat) (x : L) (h : l[k]? = some x) : sizeM (l.take (k + 1)) = sizeM (l.take k) + min x.length 10000 := by
  rw [List.take_add_one, h]
  simp [sizeM]
theorem sizeMs_step (ls : List (List L)) (k : Nat) (l : List L) (h : ls[k]? = some l) : ((ls.take (k + 1)).map sizeM).sum = ((ls.take k).map sizeM).sum + sizeM l := by
  rw [List.take_add_one, h]
  simp
end Pol8
namespace Go.Proofs.YtebcpmgooodmpabGreatDoor
open Go.RowKit
open Utf1 Pol8

theorem light_fits {p : Pol} (h : light p) : fits p := by
  intro l hl
  have h1 := h.1 l hl
  refine ⟨by omega, fun x hx => ?_⟩
  have h2 := mem_sum _ _ (List.mem_map_of_mem (f := sizeL) (l := p.lists) hl)
  have h3 := mem_sum _ _ (List.mem_map_of_mem (f := fun x : L => x.length) hx)
  have h4 := h.2
  have e : sizeL l = (l.map fun x => x.length).sum := rfl
  omega
theorem five {α : Type} {P : Nat → α → Prop} {a b c d e : α} (h0 : P 0 a) (h1 : P 1 b) (h2 : P 2 c) (h3 : P 3 d) (h4 : P 4 e) : ∀ i x, [a, b, c, d, e][i]? = some x → P i x := by
  intro i x h
  match i, h with
  | 0, h => simp at h; subst h; exact h0
  | 1, h => simp at h; subst h; exact h1
  | 2, h => simp at h; subst h; exact h2
  | 3, h => simp at h; subst h; exact h3
  | 4, h => simp at h; subst h; exact h4
  | i + 5, h => simp at h

end Go.Proofs.YtebcpmgooodmpabGreatDoor
