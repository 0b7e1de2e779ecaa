/-
  What the laws of lists use: rows that rise of the same members are the same.
-/
import Derived.Test.YtddphbbmccfblaaDG5
namespace Go.Proofs.Ytddphbbmccfblaa
open Go.RowKit
open Utf1
open Pol8 hiding text right Right
open Dg16

theorem map_bl_inj : ∀ {a b : List ByteArray}, a.map bl = b.map bl → a = b
  | [], [], _ => rfl
  | [], _ :: _, h => by simp at h
  | _ :: _, [], h => by simp at h
  | x :: a, y :: b, h => by
    injection h with h1 h2
    rw [ba_ext h1, map_bl_inj h2]
theorem ri_same {X Y : List ByteArray} {P P' : Pol8.L → Prop} (h : Ri (X.map bl) P) (h' : Ri (Y.map bl) P') (e : ∀ y, P y ↔ P' y) : X = Y := map_bl_inj (h.one h' e)
theorem ri_none {X : List ByteArray} {P : Pol8.L → Prop} (h : Ri (X.map bl) P) (e : ∀ y, ¬ P y) : X = [] := by
  cases X with
  | nil => rfl
  | cons x X => exact absurd ((h.mem (bl x)).1 List.mem_cons_self) (e _)
/-- Lists that laws go through. -/
def Lt3 (ls : List ByteArray) : Prop := ls.length ≤ 300 ∧ ∀ x ∈ ls, x.size ≤ 5000
theorem Lt3.few {ls : List ByteArray} (h : Lt3 ls) : Few ls := ⟨by have := h.1; omega, fun x hx => by have := h.2 x hx; omega⟩
theorem few_nil : Few [] := ⟨by simp, fun x hx => by cases hx⟩
theorem few_ri {X ls bs : List ByteArray} {P : Pol8.L → Prop} (h : Ri (X.map bl) P) (hP : ∀ y, P y → y ∈ ls.map bl ∨ y ∈ bs.map bl) (h1 : Lt3 ls) (h2 : Lt3 bs) : Few X := by
  have hm : ∀ y, y ∈ X.map bl → y ∈ (ls ++ bs).map bl := fun y hy => by
    rw [List.map_append, List.mem_append]
    exact hP y ((h.mem y).1 hy)
  constructor
  · have := chain_len h.ch hm
    rw [List.length_map, List.length_map, List.length_append] at this
    have := h1.1
    have := h2.1
    omega
  · intro x hx
    have := hm (bl x) (List.mem_map_of_mem hx)
    obtain ⟨z, hz, e⟩ := List.mem_map.1 this
    have e2 := congrArg List.length e
    rw [bl_len, bl_len] at e2
    rcases List.mem_append.1 hz with h | h
    · have := h1.2 z h
      omega
    · have := h2.2 z h
      omega
theorem few_len {X : List ByteArray} (h : Few X) : X.length ≤ 1000000 := by have := h.1; omega
end Go.Proofs.Ytddphbbmccfblaa
