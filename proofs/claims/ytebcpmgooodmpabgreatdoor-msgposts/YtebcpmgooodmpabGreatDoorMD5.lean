/-
  The document's rises, walked.
-/
import Derived.Test.YtebcpmgooodmpabGreatDoorMD4
import Derived.Deep.CutRange
import Derived.BigQuiet
namespace Go.Proofs.YtebcpmgooodmpabGreatDoor
open Go.RowKit
open Utf1
open Pol8 hiding text right Right
open Msg15

theorem bel_drewN (w : World) (n : Nat) : Below w.heap.size w (w.drewN n) := ⟨rfl, rfl, rfl, Nat.le_refl _, fun _ _ => rfl⟩
theorem mless_is (x y : ByteArray) : Op.bytesLess x.toList y.toList = lt (bl x) (bl y) := by
  unfold lt
  rw [ByteArray.toList_eq, ByteArray.toList_eq]
theorem chain_step : ∀ (l : List L), (∀ j a b, l[j]? = some a → l[j + 1]? = some b → lt a b = true) → Pol8.chain l = true
  | [], _ => rfl
  | [_], _ => rfl
  | a :: b :: r, h => by
    unfold Pol8.chain
    rw [Bool.and_eq_true]
    exact ⟨h 0 a b rfl rfl, chain_step (b :: r) (fun j x y hx hy => h (j + 1) x y hx hy)⟩
theorem chain_at : ∀ (l : List L), Pol8.chain l = true → ∀ j a b, l[j]? = some a → l[j + 1]? = some b → lt a b = true
  | [], _, _, _, _, h, _ => by simp at h
  | [_], _, _, _, _, _, h => by simp at h
  | a :: b :: r, hc, j, x, y, hx, hy => by
    unfold Pol8.chain at hc
    rw [Bool.and_eq_true] at hc
    cases j with
    | zero =>
      have e1 : a = x := by simpa using hx
      have e2 : b = y := by simpa using hy
      rw [← e1, ← e2]
      exact hc.1
    | succ j => exact chain_at (b :: r) hc.2 j x y hx hy

/-- The list is right up to place i. -/
def RsI (l : List L) (i : Nat) : Prop := (∀ j a, j < i → l[j]? = some a → 1 ≤ a.length ∧ a.length ≤ 16) ∧ ∀ j a b, j + 1 < i → l[j]? = some a → l[j + 1]? = some b → lt a b = true
theorem rsI_all {l : List L} (h : RsI l l.length) : riseI l = decide (l.length ≤ 64) := by
  unfold riseI
  have h1 : l.all (fun s => decide (1 ≤ s.length ∧ s.length ≤ 16)) = true := by
    rw [List.all_eq_true]
    intro x hx
    obtain ⟨j, hj, e⟩ := List.mem_iff_getElem.1 hx
    exact decide_eq_true (h.1 j x hj (by rw [List.getElem?_eq_getElem hj, e]))
  have h2 : Pol8.chain l = true := chain_step l (fun j a b ha hb => h.2 j a b (List.getElem?_eq_some_iff.1 hb).1 ha hb)
  rw [h1, h2, Bool.true_and, Bool.true_and]
theorem rs_bad_len {l : List L} {j : Nat} {a : L} (h : l[j]? = some a) (hb : ¬ (1 ≤ a.length ∧ a.length ≤ 16)) : riseI l = false := by
  unfold riseI
  have h1 : l.all (fun s => decide (1 ≤ s.length ∧ s.length ≤ 16)) = false := by
    rw [List.all_eq_false]
    exact ⟨a, List.mem_of_getElem? h, by simpa using hb⟩
  rw [h1, Bool.false_and]
theorem rs_bad_lt {l : List L} {j : Nat} {a b : L} (h : l[j]? = some a) (h2 : l[j + 1]? = some b) (hb : lt a b = false) : riseI l = false := by
  unfold riseI
  have h1 : Pol8.chain l = false := by
    cases hc : Pol8.chain l with
    | false => rfl
    | true =>
      have := chain_at l hc j a b h h2
      rw [hb] at this
      cases this
  rw [h1, Bool.false_and, Bool.and_false]
theorem RsI.step {l : List L} {i : Nat} {a : L} (h : RsI l i) (ha : l[i]? = some a) (hl : 1 ≤ a.length ∧ a.length ≤ 16) (hp : ∀ b, i = 0 ∨ (l[i - 1]? = some b → lt b a = true)) : RsI l (i + 1) := by
  refine ⟨fun j x hj hx => ?_, fun j x y hj hx hy => ?_⟩
  · rcases Nat.lt_or_ge j i with h1 | h1
    · exact h.1 j x h1 hx
    · have : j = i := by omega
      subst this
      rw [ha] at hx
      rw [← Option.some.inj hx]
      exact hl
  · rcases Nat.lt_or_ge (j + 1) i with h1 | h1
    · exact h.2 j x y h1 hx hy
    · have : j + 1 = i := by omega
      subst this
      rw [ha] at hy
      rw [← Option.some.inj hy]
      rcases hp x with h2 | h2
      · omega
      · exact h2 (by rw [Nat.add_sub_cancel]; exact hx)

end Go.Proofs.YtebcpmgooodmpabGreatDoor
