/-
  Rows of nodes that were appended.
-/
import Derived.Test.YtholfdfjapgfbaaN11
import Derived.Test.YtholfdfjapgfbaaN12
import Derived.Laws.AppendOwnNone
namespace Go.Proofs.Ytholfdfjapgfbaa
open Go.RowKit
open Utf1

/-- Cells are those of nodes. -/
def RowOf (w : World) (d : Nat) (xs : List Value) (ns : List Nd) : Prop := xs.length = ns.length * 4 ∧ ∀ i nd, ns[i]? = some nd → ∃ ap am ac kp km kc, xs[i * 4]? = some (.string ⟨nd.name.toArray⟩) ∧ xs[i * 4 + 1]? = some (.slice ap am ac) ∧ xs[i * 4 + 2]? = some (.string ⟨nd.text.toArray⟩) ∧ xs[i * 4 + 3]? = some (.slice kp km kc) ∧ (nd.name.length ≤ 281474976710656 ∧ nd.text.length ≤ 281474976710656) ∧ ARow w ap am nd.attrs ∧ NAtD w d (.slice kp km kc) nd.kids
theorem RowOf.nil (w : World) (d : Nat) : RowOf w d [] [] := ⟨rfl, fun i nd h => by simp at h⟩
theorem RowOf.below {w w' : World} {d : Nat} {xs : List Value} {ns : List Nd} (h : RowOf w d xs ns) (hb : Below w.heap.size w w') : RowOf w' d xs ns := by
  refine ⟨h.1, fun i nd hi => ?_⟩
  obtain ⟨ap, am, ac, kp, km, kc, x0, x1, x2, x3, hs, ha, hk⟩ := h.2 i nd hi
  exact ⟨ap, am, ac, kp, km, kc, x0, x1, x2, x3, hs, ha.below hb, hk.below hb⟩
theorem RowOf.more {w : World} {d d' : Nat} {xs : List Value} {ns : List Nd} (h : RowOf w d xs ns) (hd : d ≤ d') : RowOf w d' xs ns := by
  refine ⟨h.1, fun i nd hi => ?_⟩
  obtain ⟨ap, am, ac, kp, km, kc, x0, x1, x2, x3, hs, ha, hk⟩ := h.2 i nd hi
  exact ⟨ap, am, ac, kp, km, kc, x0, x1, x2, x3, hs, ha, hk.more hd⟩
theorem RowOf.app {w : World} {d : Nat} {xs ys : List Value} {a b : List Nd} (h1 : RowOf w d xs a) (h2 : RowOf w d ys b) : RowOf w d (xs ++ ys) (a ++ b) := by
  refine ⟨by rw [List.length_append, List.length_append, h1.1, h2.1]; omega, fun i nd hi => ?_⟩
  have hx := h1.1
  by_cases hl : i < a.length
  · rw [List.getElem?_append_left hl] at hi
    obtain ⟨ap, am, ac, kp, km, kc, x0, x1, x2, x3, hs⟩ := h1.2 i nd hi
    refine ⟨ap, am, ac, kp, km, kc, ?_, ?_, ?_, ?_, hs⟩
    · rw [List.getElem?_append_left (by omega)]; exact x0
    · rw [List.getElem?_append_left (by omega)]; exact x1
    · rw [List.getElem?_append_left (by omega)]; exact x2
    · rw [List.getElem?_append_left (by omega)]; exact x3
  · rw [List.getElem?_append_right (by omega)] at hi
    obtain ⟨ap, am, ac, kp, km, kc, x0, x1, x2, x3, hs⟩ := h2.2 _ nd hi
    refine ⟨ap, am, ac, kp, km, kc, ?_, ?_, ?_, ?_, hs⟩
    · rw [List.getElem?_append_right (by omega), show i * 4 - xs.length = (i - a.length) * 4 by omega]; exact x0
    · rw [List.getElem?_append_right (by omega), show i * 4 + 1 - xs.length = (i - a.length) * 4 + 1 by omega]; exact x1
    · rw [List.getElem?_append_right (by omega), show i * 4 + 2 - xs.length = (i - a.length) * 4 + 2 by omega]; exact x2
    · rw [List.getElem?_append_right (by omega), show i * 4 + 3 - xs.length = (i - a.length) * 4 + 3 by omega]; exact x3
theorem row_take {w : World} {d g off c : Nat} {ns : List Nd} {p : Option Addr} (hp : p = some ⟨g, off, none⟩) (h : NAtD w (d + 1) (.slice p ns.length c) ns) : ∀ k, k ≤ ns.length → ∃ xs, RowOf w d xs (ns.take k) ∧ (∀ j u, xs[j]? = some u → w.cell? ⟨g, off + j, none⟩ = some u) ∧ ∀ u ∈ xs, u.oneCell' = true
  | 0, _ => ⟨[], RowOf.nil w d, fun j u h => by simp at h, fun u h => by cases h⟩
  | k + 1, hk => by
    obtain ⟨xs, h1, h2, h3⟩ := row_take hp h k (by omega)
    have hlt : k < ns.length := by omega
    obtain ⟨p', c', hv, _, hn⟩ := h
    injection hv with hv1
    obtain ⟨g', off', ap, am, ac, kp, km, kc, e, x0, x1, x2, x3, hs, ha, hkk⟩ := hn k ns[k] (List.getElem?_eq_getElem hlt)
    rw [← hv1, hp] at e
    injection e with e
    injection e with e1 e2
    subst e1
    subst e2
    have hx : xs.length = k * 4 := by rw [h1.1, List.length_take]; omega
    refine ⟨xs ++ [.string ⟨ns[k].name.toArray⟩, .slice ap am ac, .string ⟨ns[k].text.toArray⟩, .slice kp km kc], ?_, ?_, ?_⟩
    · rw [List.take_succ_eq_append_getElem hlt]
      refine h1.app ⟨rfl, ?_⟩
      intro i nd hi
      match i, hi with
      | 0, hi =>
        have : ns[k] = nd := by simpa using hi
        subst this
        exact ⟨ap, am, ac, kp, km, kc, rfl, rfl, rfl, rfl, hs, ha, hkk⟩
      | i + 1, hi => simp at hi
    · intro j u hj
      by_cases hl : j < xs.length
      · rw [List.getElem?_append_left hl] at hj
        exact h2 j u hj
      · rw [List.getElem?_append_right (by omega)] at hj
        obtain ⟨r, hr⟩ : ∃ r, j = k * 4 + r := ⟨j - k * 4, by omega⟩
        subst hr
        rw [hx, Nat.add_sub_cancel_left] at hj
        rw [← Nat.add_assoc]
        match r, hj with
        | 0, hj => simp at hj; subst hj; exact x0
        | 1, hj => simp at hj; subst hj; exact x1
        | 2, hj => simp at hj; subst hj; exact x2
        | 3, hj => simp at hj; subst hj; exact x3
        | r + 4, hj => simp at hj
    · intro u hu
      rcases List.mem_append.1 hu with hu | hu
      · exact h3 u hu
      · simp only [List.mem_cons, List.not_mem_nil, or_false] at hu
        rcases hu with rfl | rfl | rfl | rfl <;> rfl
/-- What is appended of a slice of nodes. -/
theorem row_of {w : World} {d m c : Nat} {ns : List Nd} {ad : Addr} (h : NAtD w (d + 1) (.slice (some ad) m c) ns) : m = ns.length ∧ m ≤ 9223372036854775807 ∧ ∃ xs, RowOf w d xs ns ∧ (∀ j u, xs[j]? = some u → w.cell? (ad.add j) = some u) ∧ ∀ u ∈ xs, u.oneCell' = true := by
  obtain ⟨p, c', hv, hl, hn⟩ := id h
  injection hv with hv1 hv2 hv3
  refine ⟨hv2, by omega, ?_⟩
  by_cases h0 : ns = []
  · subst h0
    exact ⟨[], RowOf.nil w d, fun j u h => by simp at h, fun u h => by cases h⟩
  · have hpos : 0 < ns.length := List.length_pos_iff.2 h0
    obtain ⟨g, off, _, _, _, _, _, _, e, _⟩ := hn 0 ns[0] (List.getElem?_eq_getElem hpos)
    rw [← hv1] at e
    injection e with e
    subst e
    subst hv2
    obtain ⟨xs, h1, h2, h3⟩ := row_take rfl h ns.length (Nat.le_refl _)
    rw [List.take_length] at h1
    refine ⟨xs, h1, fun j u hj => ?_, h3⟩
    have e : (⟨g, off, none⟩ : Addr).add j = ⟨g, off + j, none⟩ := by cases j <;> simp [Addr.add]
    rw [e]
    exact h2 j u hj
theorem natD_own {w : World} {B d n : Nat} {v : Value} {xs : List Value} {ns : List Nd} (h : w.ownsRow B 29 4 v n xs) (hr : RowOf w d xs ns) (hn : n = ns.length) (hb : n ≤ 9223372036854775807) : NAtD w (d + 1) v ns := by
  obtain ⟨p, c, rfl⟩ := own_len h
  refine ⟨p, c, by rw [hn], by omega, ?_⟩
  intro i nd hi
  have hil := (List.getElem?_eq_some_iff.1 hi).1
  obtain ⟨g, c', e, hcell⟩ := own_at h (by omega)
  injection e with e1 e2 e3
  obtain ⟨ap, am, ac, kp, km, kc, x0, x1, x2, x3, hs⟩ := hr.2 i nd hi
  refine ⟨g, 0, ap, am, ac, kp, km, kc, e1, ?_, ?_, ?_, ?_, hs⟩
  · rw [Nat.zero_add, hcell _ (by omega)]; exact x0
  · rw [Nat.zero_add, hcell _ (by omega)]; exact x1
  · rw [Nat.zero_add, hcell _ (by omega)]; exact x2
  · rw [Nat.zero_add, hcell _ (by omega)]; exact x3
/-- One node around what was built. -/
theorem nat_around {w : World} {v : Value} {ns : List Nd} {n : ByteArray} (hn : n.size ≤ 1000) (h : NAt w v ns) : ∃ p m c, v = .slice p m c ∧ ∀ t, NAt (w.alloc (.cells #[.string n, .slice none 0 0, .string ⟨#[]⟩, v] t)) (.slice (some ⟨w.heap.size, 0, none⟩) 1 1) [.mk (bl n) [] [] ns] := by
  obtain ⟨D, hD⟩ := h
  obtain ⟨p, m, c, rfl⟩ : ∃ p m c, v = .slice p m c := by
    cases D with
    | zero => exact hD.elim
    | succ D =>
      obtain ⟨p, c, h, _⟩ := hD
      exact ⟨_, _, _, h⟩
  refine ⟨p, m, c, rfl, fun t => ?_⟩
  have hb : Below w.heap.size w (w.alloc (.cells #[.string n, .slice none 0 0, .string ⟨#[]⟩, .slice p m c] t)) := (Below.refl _ _).alloc (Nat.le_refl _) _
  refine ⟨D + 1, natD_row (ns := [.mk (bl n) [] [] ns]) (by simp) ?_⟩
  intro i nd hi
  match i, hi with
  | 0, hi =>
    have : Nd.mk (bl n) [] [] ns = nd := by simpa using hi
    subst this
    refine ⟨none, 0, 0, p, m, c, ?_, ?_, ?_, ?_, ⟨?_, Nat.zero_le _⟩, arow_nil _, hD.below hb⟩
    · rw [new_cell]; rfl
    · rw [new_cell]; rfl
    · rw [new_cell]; rfl
    · rw [new_cell]; rfl
    · show (bl n).length ≤ _
      rw [bl_len]
      omega
  | i + 1, hi => simp at hi

end Go.Proofs.Ytholfdfjapgfbaa
