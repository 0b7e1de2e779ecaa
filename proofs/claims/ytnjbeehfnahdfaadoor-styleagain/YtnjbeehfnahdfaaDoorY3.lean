/-
  style.Filter's closure: the call's own memory (settings that stay, the map of places), and what a part does to it.
-/
import Derived.Test.YtnjbeehfnahdfaaDoorY2
import Derived.Maps.Own
import Derived.Maps.OwnOps
import Derived.Maps.Views
import Derived.OneCell
import Derived.Laws.OwnMore
import Derived.Lib.SlicesS
namespace Go.Proofs.YtnjbeehfnahdfaaDoor
open Go.RowKit Go.WideMaps
open Utf1 Sty

theorem bel2 {w w1 w2 : World} (h1 : Below w.heap.size w w1) (h2 : Below w1.heap.size w1 w2) : Below w.heap.size w w2 := h1.trans (h2.mono h1.size)
theorem below_grown {w w' : World} (hb : Below w.heap.size w w') : w.grownBy w' none := ⟨hb.os, hb.tape, hb.output, hb.size, fun k hk _ => hb.block k hk⟩

theorem contains_any (X : ByteArray) (v : Value) (ss : List ByteArray) (hl : ss.length ≤ 100000) (w : World) (hv : StrArg w v ss) :
    Calls Tryd.prog 17 #[v, .string X] w fun e w' => e = .returned (.bool (decide (bl X ∈ ss.map bl))) ∧ w' = w := by
  obtain ⟨p, cap, rfl, -, hc⟩ := hv
  cases ss with
  | nil =>
    refine (Tryd.slices_Contains_string_empty p cap X w).mono ?_
    rintro e w' ⟨rfl, rfl⟩
    exact ⟨by simp, rfl⟩
  | cons y r =>
    obtain ⟨b, off, rfl, _⟩ := hc 0 y rfl
    have hcell : ∀ j, j < (y :: r).length → w.cell? ⟨b, off + j, none⟩ = some (.string ((y :: r).getD j ByteArray.empty)) := by
      intro j hj
      obtain ⟨b', off', e, h⟩ := hc j ((y :: r)[j]) (List.getElem?_eq_getElem hj)
      injection e with e
      injection e with e1 e2
      subst e1
      subst e2
      rw [h, List.getD_eq_getElem?_getD, List.getElem?_eq_getElem hj]
      rfl
    refine (Tryd.slices_Contains_string b off (y :: r).length cap (y :: r) X w (Nat.le_refl _) (by omega) hcell).mono ?_
    rintro e w' ⟨rfl, rfl⟩
    refine ⟨?_, rfl⟩
    congr 2
    rw [List.take_length]
    have h1 := Lib.containsS_iff (y :: r) X
    by_cases hm : X ∈ y :: r
    · rw [h1.2 hm, decide_eq_true (List.mem_map_of_mem hm)]
    · have : Lib.containsS (y :: r) X = false := by
        cases h : Lib.containsS (y :: r) X
        · rfl
        · exact absurd (h1.1 h) hm
      rw [this, decide_eq_false]
      intro hx
      obtain ⟨z, hz, e⟩ := List.mem_map.1 hx
      exact hm (by rw [← ba_ext e]; exact hz)

def rowV : List NV → List Value
  | [] => []
  | x :: r => .string ⟨x.1.toArray⟩ :: .string ⟨x.2.toArray⟩ :: rowV r
theorem rowV_app : ∀ a b : List NV, rowV (a ++ b) = rowV a ++ rowV b
  | [], b => rfl
  | x :: a, b => by rw [List.cons_append, rowV, rowV, rowV_app a b]; rfl
theorem rowV_len : ∀ a : List NV, (rowV a).length = a.length * 2
  | [] => rfl
  | x :: a => by
    rw [rowV, List.length_cons, List.length_cons, rowV_len a, List.length_cons]
    omega
theorem rowV_at : ∀ (a : List NV) (i : Nat) (x : NV), a[i]? = some x → (rowV a)[2 * i]? = some (.string ⟨x.1.toArray⟩) ∧ (rowV a)[2 * i + 1]? = some (.string ⟨x.2.toArray⟩)
  | [], i, x, h => by simp at h
  | y :: a, 0, x, h => by
    have : y = x := by simpa using h
    subst this
    exact ⟨rfl, rfl⟩
  | y :: a, i + 1, x, h => by
    have h' : a[i]? = some x := by simpa using h
    obtain ⟨h1, h2⟩ := rowV_at a i x h'
    rw [rowV]
    refine ⟨?_, ?_⟩
    · rw [show 2 * (i + 1) = 2 * i + 1 + 1 by omega, List.getElem?_cons_succ, List.getElem?_cons_succ]
      exact h1
    · rw [show 2 * (i + 1) + 1 = 2 * i + 1 + 1 + 1 by omega, List.getElem?_cons_succ, List.getElem?_cons_succ]
      exact h2

/-- The map tells the last place of each name that was met. -/
def DOk (D : DataW Unit) (st : List NV) : Prop := ∀ (i : Nat) (x : NV), st[i]? = some x → ∃ j : Nat, D.atKey (.string x.1) (.lit (.int .i64 0)) = .lit (.int .i64 (j : Int)) ∧ i ≤ j ∧ ∃ y, st[j]? = some y ∧ y.1 = x.1
theorem DOk.nil (D : DataW Unit) : DOk D [] := fun i x h => by simp at h
theorem DOk.put {D : DataW Unit} {st : List NV} (h : DOk D st) (hD : Maps.IsMap D) (x : NV) : DOk (D.put (.string x.1) (.lit (.int .i64 (st.length : Int)))) (st ++ [x]) := by
  have hx : (st ++ [x])[st.length]? = some x := by simp
  intro i y hy
  by_cases e : y.1 = x.1
  · refine ⟨st.length, ?_, ?_, x, hx, e.symm⟩
    · rw [e]
      exact Maps.atKey_put_same hD (by simp [WideAt.IsKeyLit]) _ _
    · have := (List.getElem?_eq_some_iff.1 hy).1
      simp at this
      omega
  · have hi : i < st.length := by
      have := (List.getElem?_eq_some_iff.1 hy).1
      simp at this
      rcases Nat.lt_or_ge i st.length with h1 | h1
      · exact h1
      · have : i = st.length := by omega
        subst this
        rw [hx] at hy
        cases hy
        exact absurd rfl e
    rw [List.getElem?_append_left hi] at hy
    obtain ⟨j, h1, h2, z, h3, h4⟩ := h i y hy
    refine ⟨j, ?_, h2, z, ?_, h4⟩
    · rw [Maps.atKey_put_other (fun e' => e (by injection e')) _ _]
      exact h1
    · rw [List.getElem?_append_left (List.getElem?_eq_some_iff.1 h3).1]
      exact h3

/-- The call's own memory. -/
structure Inv (Hb : Nat) (v : Value) (st : List NV) (w : World) : Prop where
  pb : w.heap[Hb]? = some (.cells #[v] 22 (0, 0))
  sb : ∃ u, w.heap[Hb + 1]? = some (.cells #[u] 31 (0, 0)) ∧ w.ownsRow (Hb + 4) 36 2 u st.length (rowV st)
  mb : w.heap[Hb + 3]? = some (.cells #[.map (some (Hb + 2))] 32 (0, 0))
  mp : ∃ D : DataW Unit, w.ownsMap Tryd.prog 9 (plainElem Tryd.prog 3) (Hb + 2) st.length D ∧ Maps.IsMap D ∧ DOk D st
theorem Inv.lt {Hb : Nat} {v : Value} {st : List NV} {w : World} (h : Inv Hb v st w) : Hb + 4 ≤ w.heap.size := by have := lt_of_block h.mb; omega
theorem Inv.keep {Hb : Nat} {v : Value} {st : List NV} {w w' : World} (h : Inv Hb v st w) (hb : Below w.heap.size w w') : Inv Hb v st w' := by
  obtain ⟨h1, ⟨u, h2, h3⟩, h4, D, h5, h6⟩ := h
  exact ⟨(hb.block _ (lt_of_block h1)).trans h1, ⟨u, (hb.block _ (lt_of_block h2)).trans h2, h3.kept (row := none) (below_grown hb) (Classical.em _)⟩, (hb.block _ (lt_of_block h4)).trans h4, D, h5.kept (below_grown hb) (by simp), h6⟩

theorem ownsMap_setCell_other {H : Type} {w : World} {P : Program} {k : TypeId} {R : Value → Option (DataW H × List MemPlace)} {b n : Nat} {D : DataW H} (h : w.ownsMap P k R b n D) {a : Addr} (ha : b ≠ a.block) (u : Value) : (w.setCell a u).ownsMap P k R b n D := by
  obtain ⟨es, clock, hb, r⟩ := h
  exact ⟨es, clock, by rw [Below.heap_setCell _ _ _ _ ha]; exact hb, r⟩
end Go.Proofs.YtnjbeehfnahdfaaDoor
