/-
  Slices of strings and of numbers among the arguments, read.
-/
import Derived.Test.YtddphbbmccfblaaDG5
import Derived.SliceStrings
import Derived.ChangeSlices
import Derived.OpenShut
namespace Go.Proofs.Ytddphbbmccfblaa
open Go.ChangeShapes Go.WideShapes Go.RowKit
open Utf1

theorem dcellsStr : Try.prog.cellsOf 9 = 1 := by kernel_rfl
theorem dcellsInt : Try.prog.cellsOf 3 = 1 := by kernel_rfl
theorem open_cstrs {H : Type} {enc : TypeId × Value → H} {W : World} {a : Option Addr} {len cap : Nat} {d : DataW H} {p : List MemPlace} (h : DataW.Trod enc Try.prog W 0 (fun _ => true) true 22 (.slice a len cap) d p) : ∃ ss, StrCap W (.slice a len cap) ss := by
  obtain ⟨fuel, hf⟩ := h
  rcases open_strings Try.underlying22 Try.underlying9 dcellsStr hf with ⟨hcs, _⟩ | ⟨x, l, c, ss, hcs, _, hl, hm, hz, _, hcell, hsz⟩
  · simp [Value.cells] at hcs
    obtain ⟨rfl, rfl, rfl⟩ := hcs
    exact ⟨[], strCap_nil W⟩
  · simp [Value.cells] at hcs
    obtain ⟨rfl, rfl, rfl⟩ := hcs
    have hz : ss.length = cap := by simpa using hz
    refine ⟨ss.take len, ⟨some x, cap, ?_, fun h => (by cases h), ?_⟩, _, _, _, rfl, hl⟩
    · rw [List.length_take, Nat.min_eq_left (by omega)]
    · intro i s hi
      have hil : i < ss.length := by
        have := (List.getElem?_eq_some_iff.1 hi).1
        rw [List.length_take] at this
        omega
      have hilen : i < len := by
        have := (List.getElem?_eq_some_iff.1 hi).1
        rw [List.length_take] at this
        omega
      rw [List.getElem?_take, if_pos hilen] at hi
      have hc := hcell i hil
      have hg : ss.getD i ByteArray.empty = s := by rw [List.getD_eq_getElem?_getD, hi]; rfl
      rw [hg] at hc
      obtain ⟨b, off, spot⟩ := x
      have hspot : spot = none := by simpa [Addr.add] using World.cell?_spot (hcell 0 (by omega))
      subst hspot
      exact ⟨b, off, rfl, by rw [← add_plain]; exact hc⟩
theorem open_strs {H : Type} {enc : TypeId × Value → H} {W : World} {a : Option Addr} {len cap : Nat} {d : DataW H} {p : List MemPlace} (h : DataW.Trod enc Try.prog W 0 (fun _ => true) true 22 (.slice a len cap) d p) : ∃ ss, StrArg W (.slice a len cap) ss := by
  obtain ⟨ss, h⟩ := open_cstrs h
  exact ⟨ss, h.1⟩
theorem open_zints {H : Type} {enc : TypeId × Value → H} {W : World} {a : Option Addr} {len cap : Nat} {d : DataW H} {p : List MemPlace} (h : DataW.Trod enc Try.prog W 0 (fun _ => true) true 27 (.slice a len cap) d p) : ∃ zs, IntArg W (.slice a len cap) zs ∧ zs.length ≤ 9223372036854775807 := by
  obtain ⟨fuel, hf⟩ := h
  rcases open_ints Try.underlying27 Try.underlying3 dcellsInt hf with ⟨hcs, _⟩ | ⟨x, l, c, ss, hcs, _, hl, hm, hz, _, hcell, hsz⟩
  · simp [Value.cells] at hcs
    obtain ⟨rfl, rfl, rfl⟩ := hcs
    exact ⟨[], ⟨none, 0, rfl, fun i s h => by simp at h⟩, by simp⟩
  · simp [Value.cells] at hcs
    obtain ⟨rfl, rfl, rfl⟩ := hcs
    have hz : ss.length = cap := by simpa using hz
    refine ⟨ss.take len, ⟨some x, cap, ?_, ?_⟩, by rw [List.length_take]; unfold maxLen at hm; omega⟩
    · rw [List.length_take, Nat.min_eq_left (by omega)]
    · intro i s hi
      have hil : i < ss.length := by
        have := (List.getElem?_eq_some_iff.1 hi).1
        rw [List.length_take] at this
        omega
      have hilen : i < len := by
        have := (List.getElem?_eq_some_iff.1 hi).1
        rw [List.length_take] at this
        omega
      rw [List.getElem?_take, if_pos hilen] at hi
      have hc := hcell i hil
      have hg : ss.getD i 0 = s := by rw [List.getD_eq_getElem?_getD, hi]; rfl
      rw [hg] at hc
      obtain ⟨b, off, spot⟩ := x
      have hspot : spot = none := by simpa [Addr.add] using World.cell?_spot (hcell 0 (by omega))
      subst hspot
      exact ⟨b, off, rfl, by rw [← add_plain]; exact hc⟩
end Go.Proofs.Ytddphbbmccfblaa
